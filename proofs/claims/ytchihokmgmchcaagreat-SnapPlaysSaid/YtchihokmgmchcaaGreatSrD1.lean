/- D1, of the proof -/
import Derived.Test.YtchihokmgmchcaaGreatSrC1
import Derived.Test.YtchihokmgmchcaaGreatSrA1
import Derived.Test.YtchihokmgmchcaaGreatSrM4
import Derived.Test.YtchihokmgmchcaaGreatSq0K
set_option linter.unusedVariables false
set_option maxRecDepth 100000
set_option maxHeartbeats 4000000
namespace Go.Proofs.YtchihokmgmchcaaGreat
open Go.Proofs.Tryz
open List renaming all_eq_true->TX,append_assoc->NR,length_append->DC,length_drop->IV,length_take->E4,replicate->vw,setIfInBounds_toArray->Tz,set_cons_succ->To,set_cons_zero->Tn,take_append_drop->T8,take_left->Vh
open Nat renaming le_refl->nm,le_trans->A6,lt_of_lt_of_le->ti,min_le_left->VF,pow_le_pow_right->VE
open Bool renaming and_eq_true->N6,false_and->T5,true_and->T4
open Go.Obj renaming cells->hV
open _root_.Array renaming getElem?_eq_some_iff->DN
open Go.Lib renaming hid->hT
open Go.RowKit.Below renaming refl->G3
open Go.IntKind renaming i64->lg,u64->wb
open Go.IntWalk renaming i64_in->rr,u32_in->Vs,u64_in->T6
open Go.Ending renaming returned->nf
open Go.World renaming ownsRow_lit->VX
open Int renaming toNat_natCast->GH
open Go.Value renaming tuple->CE
open Go.Instr renaming typeAssert->Vn
open Go.Result renaming andThen->Ty
open Go.Act renaming put->OW
section
namespace Sc
structure Lay (t:zL) (zs:zN):Prop where
 letters:t.length= 4
 Ta:Om.eB zs= true
 aS:Om.off zs zs.length<=56
def front (t:zL) (zs:zN) (ns:List Nat):zL:=t ++ Om.ct zs ns zs.length
def ah (t:zL) (zs:zN) (ns:List Nat):zL:=ff (front t zs ns) 60
variable{t:zL}{zs:zN}
theorem xh (L:Lay t zs) (ns:List Nat):(front t zs ns).length= 4+Om.off zs zs.length:=by unfold front;rw [DC,L.letters,Om.kb zs ns zs.length (nm _)]
theorem Fc (L:Lay t zs) (ns:List Nat):(front t zs ns).length<=60:=by rw [xh L];have:=L.aS;omega
theorem nE (L:Lay t zs) (ns:List Nat):(dZ (front t zs ns) 60).length= 60:=sJ _ _ (Fc L ns)
theorem bD (L:Lay t zs) (ns:List Nat):(ah t zs ns).length= 64:=by unfold ah ff;rw [DC,nE L,Cm.pF]
def cx (t:zL) (zs:zN) (s:zL):Int:= if s.length= 64 then if Cm.aN s= true then if (s.take 60).take 4= t then if dB (((s.take 60).drop 4).drop (Om.off zs zs.length))= true then 0 else 32 else 22 else 31 else 21
def az (zs:zN) (s:zL) (i:Nat):Nat:=Om.at_ ((s.take 60).drop 4) zs i
variable{s:zL}
theorem pJ (h:s.length≠64):cx t zs s= 21:=by unfold cx;rw [if_neg h]
theorem pK (h:s.length= 64) (a:Cm.aN s= false):cx t zs s= 31:=by unfold cx;rw [if_pos h,if_neg (by rw [a];decide)]
theorem pL (h:s.length= 64) (b:Cm.aN s) (a:(s.take 60).take 4≠t):cx t zs s= 22:=by unfold cx;rw [if_pos h,if_pos b,if_neg a]
theorem pM (h:s.length= 64) (c:Cm.aN s) (b:(s.take 60).take 4= t) (a:dB (((s.take 60).drop 4).drop (Om.off zs zs.length))= false):cx t zs s= 32:=by unfold cx;rw [if_pos h,if_pos c,if_pos b,if_neg (by rw [a];decide)]
theorem ml (h:s.length= 64) (c:Cm.aN s) (b:(s.take 60).take 4= t) (a:dB (((s.take 60).drop 4).drop (Om.off zs zs.length))= true):cx t zs s= 0:=by unfold cx;rw [if_pos h,if_pos c,if_pos b,if_pos a]
theorem Fe (h:cx t zs s= 0):s.length= 64/\Cm.aN s= true/\(s.take 60).take 4= t/\dB (((s.take 60).drop 4).drop (Om.off zs zs.length))= true:=by
 by_cases h1:s.length= 64;· cases h2:Cm.aN s with
  | false=>rw [pK h1 h2]at h;cases h
  | true =>
  by_cases a:(s.take 60).take 4= t;· cases h4:dB (((s.take 60).drop 4).drop (Om.off zs zs.length)) with
   | false=>rw [pM h1 h2 a h4]at h;cases h
   | true=>exact ⟨h1,rfl,a,rfl⟩
  ·rw [pL h1 h2 a]at h;cases h
 ·rw [pJ h1]at h;cases h
theorem sM (s:zL) (h:s.length= 64) (a:Cm.aN s):s= s.take 60 ++ Cm.four (s.take 60):=by unfold Cm.aN at a;rw [h]at a;have e:=beq_iff_eq.1 a;rw [<-e,T8]
theorem Ff (l:zL) (h:dB l):l= vw l.length 0:=by apply List.eq_replicate_iff.2 ⟨rfl,λb hb=>?_⟩;simpa using TX.1 h b hb
theorem all_zero (n:Nat):dB (vw n 0)= true:=by unfold dB;rw [TX];intro b a;rw [(List.mem_replicate.1 a).2];rfl
theorem nF (L:Lay t zs) (ns:List Nat):(ah t zs ns).take 60= front t zs ns ++ vw (60 - (front t zs ns).length) 0:=by unfold ah ff;have:=Vh (l₁:=dZ (front t zs ns) 60) (l₂:=Cm.four (dZ (front t zs ns) 60));rw [nE L]at this;rw [this];rfl
theorem Fg (L:Lay t zs) (ns:List Nat):((ah t zs ns).take 60).take 4= t:=by rw [nF L];unfold front;rw [NR,<-L.letters,Vh]
theorem xi (L:Lay t zs) (ns:List Nat):((ah t zs ns).take 60).drop 4= Om.ct zs ns zs.length ++ vw (60 - (front t zs ns).length) 0:=by rw [nF L];unfold front;rw [NR,<-L.letters,List.drop_left]
theorem back (L:Lay t zs) (ns:List Nat) (a:Om.gK zs ns zs.length):cx t zs (ah t zs ns)= 0/\∀i,i<zs.length->az zs (ah t zs ns) i= ns.getD i 0:=by
 refine ⟨ml (bD L ns) (Cm.wT _) (Fg L ns) ?_,λi hi=>?_⟩;· rw [xi L,Om.Dq zs ns zs.length _ (nm _)];exact all_zero _
 ·unfold az;rw [xi L];exact Om.vU zs ns zs.length _ (nm _) a i hi
theorem again (L:Lay t zs) (s:zL) (h:cx t zs s= 0) (ns:List Nat) (j:∀i,i<zs.length->ns.getD i 0= az zs s i):ah t zs ns= s:=by
 obtain ⟨k,m,g,f⟩:=Fe h;have c:(s.take 60).length= 60:=by rw [E4];omega
 have e:=L.aS;have l:= Om.vV ((s.take 60).drop 4) zs ns zs.length (nm _) (by rw [IV,c];omega) j;have d:(((s.take 60).drop 4).drop (Om.off zs zs.length)).length= 56 - Om.off zs zs.length:=by rw [IV,IV,c]
 have a:=Ff _ f;rw [d]at a;have b:dZ (front t zs ns) 60= s.take 60:=by show front t zs ns ++ vw (60 - (front t zs ns).length) 0= _;rw [xh L,show 60 - (4+Om.off zs zs.length)= 56 - Om.off zs zs.length by omega,<-a];unfold front;rw [l,<-g,NR,T8,T8]
 unfold ah ff;rw [b];exact (sM s k m).symm
end Sc
end
section
namespace Hm
def cN (g:Nat) (c p:Int):Bool:=decide (1<=g) && decide (1<=c) && decide (c<=128) && decide (1<=p) && decide (p<=1048576)
theorem mm (g:Nat) (c p:Int):cN g c p= true↔1<=g/\1<=c/\c<=128/\1<=p/\p<=1048576:=by simp only [cN,N6,decide_eq_true_eq,and_assoc]
def bit (b:Bool):Nat:=if b= true then 1 else 0
theorem sN (b:Bool):bit b<=1:=by cases b<;>decide
def ts:zL:= [79,65,75,72]
def zs:zN:= [4,2,4,1]
theorem lay:Sc.Lay ts zs:=⟨rfl,by decide,by decide⟩
theorem iA:Om.off zs zs.length= 11:=by decide
def ag (g:Nat) (c p:Int) (b:Bool):List Nat:= [g,c.toNat,p.toNat,bit b]
theorem fit (g:Nat) (c p:Int) (b:Bool) (d:g<4294967296) (h:cN g c p):Om.gK zs (ag g c p b) zs.length= true:=by obtain ⟨h1,l,k,j,f⟩:=(mm g c p).1 h;have e:=sN b;rw [Om.kQ];intro i hi;have a:i<4:=hi;match i,a with
 | 0,_=>show g<256 ^ 4;omega
 | 1,_=>show c.toNat<256 ^ 2;omega
 | 2,_=>show p.toNat<256 ^ 4;omega
 | 3,_=>show bit b<256 ^ 1;omega
theorem jy (g:Nat) (c p:Int) (b:Bool) (a:g<4294967296) (h:cN g c p):gO zs (ag g c p b)= Om.ct zs (ag g c p b) zs.length/\gP zs (ag g c p b)= 0:= nC zs (ag g c p b) rfl (by decide) (fit g c p b a h)
def ah (g:Nat) (c p:Int) (b:Bool):zL:=Sc.ah ts zs (ag g c p b)
theorem bD (g:Nat) (c p:Int) (b:Bool):(ah g c p b).length= 64:=Sc.bD lay _
def encS (g:Nat) (c p:Int) (b:Bool):zL:=if cN g c p= true then ah g c p b else []
def dC (g:Nat) (c p:Int):Int:=if cN g c p= true then 0 else 1
theorem eI {g:Nat} {c p:Int} (b:Bool) (h:cN g c p):encS g c p b= ah g c p b/\dC g c p= 0:=by unfold encS dC;rw [if_pos h,if_pos h];exact ⟨rfl,rfl⟩
theorem iB {g:Nat} {c p:Int} (b:Bool) (h:cN g c p= false):encS g c p b= []/\dC g c p= 1:=by unfold encS dC;rw [if_neg (by rw [h];decide),if_neg (by rw [h];decide)];exact ⟨rfl,rfl⟩
def dr (a b c d:Nat):Bool:=cN a b c && decide (d<=1)
def av (s:zL):Int:=if Sc.cx ts zs s= 0 then if dr (Sc.az zs s 0) (Sc.az zs s 1) (Sc.az zs s 2) (Sc.az zs s 3)= true then 0 else 32 else Sc.cx ts zs s
def aH (s:zL):Nat:=if av s= 0 then Sc.az zs s 0 else 0
def fT (s:zL):Nat:=if av s= 0 then Sc.az zs s 1 else 0
def fU (s:zL):Nat:=if av s= 0 then Sc.az zs s 2 else 0
def d_ (s:zL):Bool:=if av s= 0 then Sc.az zs s 3 == 1 else false
theorem gx (s:zL) (h:av s≠0):aH s= 0/\fT s= 0/\fU s= 0/\d_ s= false:=by unfold aH fT fU d_;rw [if_neg h,if_neg h,if_neg h,if_neg h];exact ⟨rfl,rfl,rfl,rfl⟩
theorem gy (s:zL) (x:Int) (h:Sc.cx ts zs s= x) (a:x≠0):av s= x/\aH s= 0/\fT s= 0/\fU s= 0/\d_ s= false:=by
 have e:av s= x:=by unfold av;rw [h,if_neg a]
 exact ⟨e,gx s (by rw [e];exact a)⟩
theorem kX (s:zL) (h:Sc.cx ts zs s= 0) (a:dr (Sc.az zs s 0) (Sc.az zs s 1) (Sc.az zs s 2) (Sc.az zs s 3)= false):av s= 32/\aH s= 0/\fT s= 0/\fU s= 0/\d_ s= false:=by
 have e:av s= 32:=by unfold av;rw [if_pos h,if_neg (by rw [a];decide)]
 exact ⟨e,gx s (by rw [e];decide)⟩
theorem gQ (s:zL) (h:Sc.cx ts zs s= 0) (a:dr (Sc.az zs s 0) (Sc.az zs s 1) (Sc.az zs s 2) (Sc.az zs s 3)): av s= 0/\aH s= Sc.az zs s 0/\fT s= Sc.az zs s 1/\fU s= Sc.az zs s 2/\d_ s= (Sc.az zs s 3 == 1):=by
 have e:av s= 0:=by unfold av;rw [if_pos h,if_pos a]
 unfold aH fT fU d_;rw [if_pos e,if_pos e,if_pos e,if_pos e];exact ⟨e,rfl,rfl,rfl,rfl⟩
theorem back (g:Nat) (c p:Int) (b:Bool) (j:g<4294967296) (h:cN g c p): av (ah g c p b)= 0/\aH (ah g c p b)= g/\(fT (ah g c p b):Int)= c/\(fU (ah g c p b):Int)= p/\d_ (ah g c p b)= b:=by
 obtain ⟨h1,q,o,n,m⟩:=(mm g c p).1 h;obtain ⟨k,a⟩:=Sc.back lay (ag g c p b) (fit g c p b j h);have n0:Sc.az zs (ah g c p b) 0= g:=a 0 (by decide);have n1:Sc.az zs (ah g c p b) 1= c.toNat:=a 1 (by decide);have e:Sc.az zs (ah g c p b) 2= p.toNat:=a 2 (by decide);have d:Sc.az zs (ah g c p b) 3= bit b:=a 3 (by decide);have f:((c.toNat:Nat):Int)= c:=by omega
 have hp:((p.toNat:Nat):Int)= p:=by omega
 have i:dr (Sc.az zs (ah g c p b) 0) (Sc.az zs (ah g c p b) 1) (Sc.az zs (ah g c p b) 2) (Sc.az zs (ah g c p b) 3):=by rw [n0,n1,e,d];unfold dr;rw [f,hp,h,T4,decide_eq_true_eq];exact sN b
 obtain ⟨d0,d1,d2,d3,l⟩:=gQ (ah g c p b) k i;refine ⟨d0,by rw [d1,n0],by rw [d2,n1,f],by rw [d3,e,hp],?_⟩;rw [l,d];cases b<;>rfl
end Hm
end
section
open Go.RowKit
def Uv (a n g:Int):Value:= zO a n g
structure Ux (W:World) (k:Nat) (a n g:Int):Prop where
 lt:k<W.heap.size
 c0:W.cell? (zD k 0)= some (zI a)
 c1:W.cell? (zD k 1)= some (zI n)
 c2:W.cell? (zD k 2)= some (zI g)
variable{k:Nat}
theorem Ux.below {W W':World} {a n g:Int} {B:Nat} (h:Ux W k a n g) (hk:k<B) (hb:Below B W W'):Ux W' k a n g:= ⟨ti h.lt hb.size,(hb.cell (p:=(zD k 0)) hk).trans h.c0,(hb.cell (p:=(zD k 1)) hk).trans h.c1,(hb.cell (p:=(zD k 2)) hk).trans h.c2⟩
theorem Ux.next {W W':World} {a n g:Int} (h:Ux W k a n g) (hb:zB W W'):Ux W' k a n g:=h.below h.lt hb
theorem tl {W:World} {a n g:Int} {ty:TypeId} (h:W.heap[k]?= some (hV #[zI a,zI n,zI g] ty (0,0))):Ux W k a n g:= ⟨(DN.1 h).1,zW h,zW h,zW h⟩
theorem jc (w:World) (a n g:Int) (ty:TypeId):Ux (w.alloc (zK a n g ty)) w.heap.size a n g:=tl (heap_alloc_new w _)
theorem nT (a n g:Int) (w:World):zF 88 #[Uv a n g] w (zJ (.bool (Um.aj a n g)) w):=by have R:=hT (λw1=>Geo.kP n g w1);have i:=hT (jc w a n g 23);have f:zB w (w.alloc (zK a n g 23)):=zA;obtain ⟨o,c⟩:=eX2 (w.alloc (zK a n g 23));rw [c]at i f;have p:=hT f;have e:zB o (o.alloc (zE n g 103)):=(G3 _ o).alloc (nm _) _;have l:=hT (i.out.next e);have h:=zT p e;obtain ⟨g0,g1⟩:=Geo.kO o n g;obtain ⟨d,j,a1,a2⟩:=i.out;clear f e;unfold Uv;cases hok:Em.aM n g with
 | false => have k:=hT (show Um.aj a n g= false by unfold Um.aj;rw [hok];rfl);rw [hok]at R;clear hok;go_enter func88,ntmps88;go_wp2_with fail;clear c d j a1 a2;refine zg (R.out _) λw2 hb=>?_;have b:=zT h hb;clear hb g0 g1;go_wp2;go_ret;exact ⟨by rw [k.out];rfl,b.out⟩
 | true =>
 obtain ⟨h1,s,r,q⟩:=(Em.cM _ _).1 hok;have t:lg.wrap (n+17)= n+17:=rr _ (by omega);rw [hok]at R;by_cases m:n+17<=a;·
  have d1:decide (n+17<=a):=by simpa using m
  have k:=hT (show Um.aj a n g= decide (a<=1048576) by unfold Um.aj;rw [hok,d1];rfl);clear hok h1 s r q m;go_enter func88,ntmps88;go_wp2_with fail;clear c d j a1 a2;refine zg (R.out _) λw2 hb=>?_;have b:=zT h hb;obtain ⟨_,j,a1,a2⟩:=l.out.next hb;clear hb g0 g1;go_wp2;go_ret;exact ⟨by rw [k.out];rfl,b.out⟩
 ·have d1:decide (n+17<=a)= false:=by simpa using m
  have k:=hT (show Um.aj a n g= false by unfold Um.aj;rw [hok,d1];rfl);clear hok h1 s r q m;go_enter func88,ntmps88;go_wp2_with fail;clear c d j a1 a2;refine zg (R.out _) λw2 hb=>?_;have b:=zT h hb;obtain ⟨_,j,a1,a2⟩:=l.out.next hb;clear hb g0 g1;go_wp2;go_ret;exact ⟨by rw [k.out];rfl,b.out⟩
end
section
open Go.RowKit
variable{w:World}{g:Nat}{t:TypeId}
theorem dc {a b c d:Value} (h:w.heap[g]?= some (hV #[a,b,c,d] t (0,0))) (x y z u:Value): ((((w.setCell ⟨g,0,none⟩ x).setCell ⟨g,1,none⟩ y).setCell ⟨g,2,none⟩ z).setCell ⟨g,3,none⟩ u).heap[g]?= some (hV #[x,y,z,u] t (0,0)):=by have h1:=heap_setCell_same w g 0 _ _ x h;have f:=heap_setCell_same _ g 1 _ _ y h1;have e:=heap_setCell_same _ g 2 _ _ z f;exact heap_setCell_same _ g 3 _ _ u e
theorem dd {B:Nat} {a:World} (h:Below B a w) (hg:B<=g) (x y z u:Value):Below B a ((((w.setCell ⟨g,0,none⟩ x).setCell ⟨g,1,none⟩ y).setCell ⟨g,2,none⟩ z).setCell ⟨g,3,none⟩ u):= (((h.setCell (p:=(zD g 0)) hg x).setCell (p:=(zD g 1)) hg y).setCell (p:=(zD g 2)) hg z).setCell (p:=(zD g 3)) hg u
theorem lq {a b c:Value} (h:w.heap[g]?= some (hV #[a,b,c] t (0,0))) (x y z:Value): (((w.setCell ⟨g,0,none⟩ x).setCell ⟨g,1,none⟩ y).setCell ⟨g,2,none⟩ z).heap[g]?= some (hV #[x,y,z] t (0,0)):=by have h1:=heap_setCell_same w g 0 _ _ x h;have d:=heap_setCell_same _ g 1 _ _ y h1;exact heap_setCell_same _ g 2 _ _ z d
theorem km {B:Nat} {a:World} (h:Below B a w) (hg:B<=g) (x y z:Value):Below B a (((w.setCell ⟨g,0,none⟩ x).setCell ⟨g,1,none⟩ y).setCell ⟨g,2,none⟩ z):= ((h.setCell (p:=(zD g 0)) hg x).setCell (p:=(zD g 1)) hg y).setCell (p:=(zD g 2)) hg z
end
section
open Go.RowKit
def Hv (g:Nat) (c p:Int) (b:Bool):Value:= .agg #[zU g,zI c,zI p, .bool b]
theorem tB (g:Nat) (c p:Int) (b:Bool) (w:World):zF 279 #[Hv g c p b] w (zJ (.bool (Hm.cN g c p)) w):=by
 have i:Hid (zB w (w.alloc (hV #[zU g,zI c,zI p, .bool b] 188))):=zA;unfold Hv;by_cases h1:1<=g;·
  have d1:decide (1<=(g:Int)):=by simp;omega
  by_cases e:1<=c;·
   have d2:decide (1<=c):=by simpa using e
   by_cases f:c<=128;·
    have d3:decide (c<=128):=by simpa using f
    by_cases h:1<=p;·
     have j:decide (1<=p):=by simpa using h
     have a:Hm.cN g c p= decide (p<=1048576):=by unfold Hm.cN;simp [h1,e,f,h]
     have d:=hT a;clear a h1 e f h;go_enter func279,ntmps279;go_wp2_with fail;go_ret;exact ⟨by rw [d.out];rfl,i.out⟩
    ·have j:decide (1<=p)= false:=by simpa using h
     have a:Hm.cN g c p= false:=by unfold Hm.cN;simp [h]
     have d:=hT a;clear a h1 e f h;go_enter func279,ntmps279;go_wp2_with fail;go_ret;exact ⟨by rw [d.out];rfl,i.out⟩
   ·have d3:decide (c<=128)= false:=by simpa using f
    have a:Hm.cN g c p= false:=by unfold Hm.cN;simp [f]
    have d:=hT a;clear a h1 e f;go_enter func279,ntmps279;go_wp2_with fail;go_ret;exact ⟨by rw [d.out];rfl,i.out⟩
  ·have d2:decide (1<=c)= false:=by simpa using e
   have a:Hm.cN g c p= false:=by unfold Hm.cN;simp [e]
   have d:=hT a;clear a h1 e;go_enter func279,ntmps279;go_wp2_with fail;go_ret;exact ⟨by rw [d.out];rfl,i.out⟩
 ·have d1:decide (1<=(g:Int))= false:=by simp;omega
  have a:Hm.cN g c p= false:=by unfold Hm.cN;simp [h1]
  have d:=hT a;clear a h1;go_enter func279,ntmps279;go_wp2_with fail;go_ret;exact ⟨by rw [d.out];rfl,i.out⟩
theorem tC (b:Bool) (w:World):zF 281 #[.bool b] w (zQ (.int wb ((Hm.bit b:Nat):Int)) w):=by cases b with
 | true => go_enter func281,ntmps281;go_wp2;go_ret;exact ⟨rfl,rfl⟩
 | false => go_enter func281,ntmps281;go_wp2;go_ret;exact ⟨rfl,rfl⟩
theorem G0 (w:World):zF 280 #[] w λ e w'=>e= nf (zS w.heap.size 4 4)/\Row w' w'.heap.size (some ⟨w.heap.size,0,none⟩) 4 (bz Hm.zs)/\zB w w':=by
 have b:(w.alloc (hV #[zI 4,zI 2,zI 4,zI 1] 3)).ownsRow w.heap.size 3 1 (zS w.heap.size 4 4) 4 [zI 4,zI 2,zI 4,zI 1]:=VX w #[zI 4,zI 2,zI 4,zI 1] 4 (nm _) (by unfold maxLen;omega) rfl
 have a:Row (w.alloc (hV #[zI 4,zI 2,zI 4,zI 1] 3)) (w.alloc (hV #[zI 4,zI 2,zI 4,zI 1] 3)).heap.size (some ⟨w.heap.size,0,none⟩) 4 (bz Hm.zs):=Row.own b (λ i hi=>by
 match i,hi with
 | 0,_=>rfl
 | 1,_=>rfl
 | 2,_=>rfl
 | 3,_=>rfl)
 have d:Hid (zB w (w.alloc (hV #[zI 4,zI 2,zI 4,zI 1] 3))):=zA
 have c:=hT a
 clear b a
 go_enter func280,ntmps280
 go_wp2
 go_ret
 exact ⟨rfl,c.out,d.out⟩
end
section
open Go.RowKit
structure Bx (W:World) (k:Nat) (g:Nat) (c p:Int) (b:Bool):Prop where
 lt:k<W.heap.size
 c0:W.cell? (zD k 0)= some (zU g)
 c1:W.cell? (zD k 1)= some (zI c)
 c2:W.cell? (zD k 2)= some (zI p)
 c3:W.cell? (zD k 3)= some (.bool b)
variable{b:Bool}
theorem Bx.below {W W':World} {k g:Nat} {c p:Int} {B:Nat} (h:Bx W k g c p b) (hk:k<B) (hb:Below B W W'):Bx W' k g c p b:= ⟨ti h.lt hb.size,(hb.cell (p:=(zD k 0)) hk).trans h.c0,(hb.cell (p:=(zD k 1)) hk).trans h.c1,(hb.cell (p:=(zD k 2)) hk).trans h.c2,(hb.cell (p:=(zD k 3)) hk).trans h.c3⟩
theorem Bx.next {W W':World} {k g:Nat} {c p:Int} (h:Bx W k g c p b) (hb:zB W W'):Bx W' k g c p b:=h.below h.lt hb
theorem qe {W:World} {k g:Nat} {c p:Int} {t:TypeId} (h:W.heap[k]?= some (hV #[zU g,zI c,zI p, .bool b] t (0,0))):Bx W k g c p b:= ⟨(DN.1 h).1,zW h,zW h,zW h,zW h⟩
theorem xR (w:World) (g:Nat) (c p:Int) (b:Bool) (t:TypeId):Bx (w.alloc (hV #[zU g,zI c,zI p, .bool b] t)) w.heap.size g c p b:=qe (heap_alloc_new w _)
theorem G1 (g:Nat) (c p:Int) (b:Bool) (w:World) (a:Hm.cN g c p= false): zF 252 #[Hv g c p b] w λe w'=>e= zV (.string (Om.B [])) (zI 1)/\zB w w':=by have R:=hT (λw1=>tB g c p b w1);rw [a]at R;have f:Hid (zB w (w.alloc (hV #[zU g,zI c,zI p, .bool b] 188))):=zA;unfold Hv at R⊢;clear a;go_enter func252,ntmps252;go_wp2_with fail;refine zg (R.out _) λw1 hb=>?_;have d:=zT f hb;clear hb;go_wp2;go_ret2;exact ⟨rfl,d.out⟩
theorem nX (w:World):zF 280 #[] w λe w'=>∃k,e= nf (zS k 4 4)/\Row w' w'.heap.size (some ⟨k,0,none⟩) 4 (bz Hm.zs)/\zB w w':= (G0 w).mono λe w' h=>⟨w.heap.size,h⟩
def lu (g c p:Nat) (b:Bool):Obj:= hV #[.int wb (wb.wrap (g:Int)), .int wb (wb.wrap (c:Int)), .int wb (wb.wrap (p:Int)), .int wb ((Hm.bit b:Nat):Int)] 197
theorem xS (g c p:Nat) (b:Bool):Hm.ag g c p b= [g,c,p,Hm.bit b]:=by unfold Hm.ag;rw [GH,GH]
theorem G5 (g c p:Nat) (b:Bool) (W:World) (f:g<4294967296) (j:c<=128) (hp:p<=1048576):Row (W.alloc (lu g c p b)) (W.alloc (lu g c p b)).heap.size (some ⟨W.heap.size,0,none⟩) 4 (gN (Hm.ag g c p b)):=λ_=> ⟨W.heap.size,0,rfl,by simp,λi hi=>by have h:=heap_alloc_new W (lu g c p b);have e:wb.wrap (g:Int)= (g:Int):=T6 _ (by omega);have d:wb.wrap (c:Int)= (c:Int):=T6 _ (by omega);have a:wb.wrap (p:Int)= (p:Int):=T6 _ (by omega);unfold lu at h⊢;rw [e,d,a]at h⊢;rw [cell_of_row _ _ _ _ _ _ h,xS];match i,hi with
 | 0,_=>rfl
 | 1,_=>rfl
 | 2,_=>rfl
 | 3,_=>rfl⟩
theorem pO (g c p:Nat) (b:Bool) (a:g<4294967296) (d:c<=128) (hp:p<=1048576) (i:Nat):(Hm.ag g c p b).getD i 0<18446744073709551616:=by have e:=Hm.sN b;rw [xS];match i with
 | 0=>show g<_;omega
 | 1=>show c<_;omega
 | 2=>show p<_;omega
 | 3=>show Hm.bit b<_;omega
 | j+4=>show 0<_;omega
theorem G6 (g c p:Nat) (b:Bool) (f:g<4294967296) (a:Hm.cN g c p) (W:World) (ks:Nat) (j:Row W W.heap.size (some ⟨ks,0,none⟩) 4 (bz Hm.zs)): zF 148 #[zS ks 4 4, zS W.heap.size 4 4] (W.alloc (lu g c p b)) λe w'=>e= zV (.string (Om.B (Om.ct Hm.zs (Hm.ag g c p b) 4))) (zI 0)/\zB W w':=by obtain ⟨r,q,o,n,m⟩:=(Hm.mm _ _ _).1 a;have d:zB W (W.alloc (lu g c p b)):=(G3 _ W).alloc (nm _) _;have i:=Hm.jy g c p b f a;have k:(Hm.ag g c p b).length= 4:=rfl;refine (mj Hm.zs (Hm.ag g c p b) _ _ _ 4 4 4 4 _ rfl k (by omega) (by omega) (nm _) ((j.below d).more d.size) (G5 g c p b W f (by omega) (by omega)) (pO g c p b f (by omega) (by omega))).mono ?_;rw [i.1,i.2];rintro e w' ⟨l,h⟩;exact ⟨l,d.trans (h.mono d.size)⟩
theorem G7 (l:zL) (w:World) (h:l.length<=60): zF 150 #[.string (Om.B l),zI 64] w λe w'=>e= zV (.string (Om.B (ff l 60))) (zI 0)/\zB w w':=pH l 60 w (by omega) h
theorem G_ (g c p:Nat) (b:Bool) (w:World) (y:g<4294967296) (f:Hm.cN g c p): zF 252 #[Hv g c p b] w λe w'=>e= zV (.string (Om.B (Hm.ah g c p b))) (zI 0)/\zB w w':=by
 obtain ⟨H,G,F,E,D⟩:=(Hm.mm _ _ _).1 f;have R:=hT (λw1=>tB g c p b w1);rw [f]at R;have j:=hT (xR w g c p b 188);have x:Hid (zB w (w.alloc (hV #[zU g,zI c,zI p, .bool b] 188))):=zA;obtain ⟨I,n⟩:=eX2 (w.alloc (hV #[zU g,zI c,zI p, .bool b] 188));rw [n]at x j;obtain ⟨r,q,a1,a2,a3⟩:=j.out;have A:=hT nX;have J:=hT (G6 g c p b y f);obtain ⟨body,a⟩:=eX1 (Om.ct Hm.zs (Hm.ag g c p b) 4);have i:body.length= 11:=by rw [a,Om.kb Hm.zs _ 4 (by decide)];exact Hm.iA
 have h:Hm.ah g c p b= ff (Hm.ts ++ body) 60:=by rw [a];rfl
 have C:=hT (λw1=>G7 (Hm.ts ++ body) w1 (by rw [DC,i];decide));have v:=jx Hm.ts body (by rw [i];decide);have z:(⟨#[79,65,75,72]⟩:ByteArray) ++ Om.B body= Om.B (Hm.ts ++ body):=Om.fy Hm.ts body;rw [<-a]at J;rw [h];unfold lu at J;unfold Hv at R⊢;clear f a h i;go_enter func252,ntmps252;go_wp2_with fail;clear n;refine zg (R.out _) λw1 hb=>?_;have o:=zT x hb;have u:=hT (j.out.next hb);clear hb q a1 a2 a3 r;obtain ⟨d,q,a1,a2,a3⟩:=u.out;go_wp2;go_region_held3 (λw'=>w'.cell? (zz w 0)= some (zU g)/\w'.cell? (zz w 1)= some (zI c)/\w'.cell? (zz w 2)= some (zI p)/\w'.cell? (zz w 3)= some (.bool b)) (first|go_keep|(refine ⟨?_,?_,?_,?_⟩<;>assumption)|(exact ⟨(k.out.cell (p:=(zz w 0)) d).trans q,(k.out.cell (p:=(zz w 1)) d).trans a1,(k.out.cell (p:=(zz w 2)) d).trans a2,(k.out.cell (p:=(zz w 3)) d).trans a3⟩)) (first|(go_at_call 280;refine (A.out _).mono ?_;rintro e w2 ⟨ks,rfl,l,m⟩;have k:Hid (zB w1 w2):=zR.drew.trans m;have s:=hT l;clear m l)|(go_at_call 281;refine zh (tC b _) ?_)|(go_at_call 148;refine zg (J.out _ _ s.out) λw4 hb4=>?_;have BY:=k;have k:Hid (zB w1 w4):=zH BY hb4;clear hb4));clear q a1 a2 a3;go_wp2_with fail;refine zg (C.out _) λw5 hb5=>?_;have t:=hT (o.out.trans ((zH k hb5).mono o.out.size));clear hb5;go_wp2;go_ret2;exact ⟨rfl,t.out⟩
theorem Ha (g:Nat) (c p:Int) (b:Bool) (w:World) (d:g<4294967296): zF 252 #[Hv g c p b] w λe w'=>e= zV (.string (Om.B (Hm.encS g c p b))) (zI (Hm.dC g c p))/\zB w w':=by cases hok:Hm.cN g c p with
 | false => rw [(Hm.iB b hok).1,(Hm.iB b hok).2];exact G1 g c p b w hok
 | true => rw [(Hm.eI b hok).1,(Hm.eI b hok).2];obtain ⟨l,k,j,i,h⟩:=(Hm.mm _ _ _).1 hok;obtain ⟨f,rfl⟩:∃n:Nat,c= (n:Int):=⟨c.toNat,by omega⟩;obtain ⟨a,rfl⟩:∃n:Nat,p= (n:Int):=⟨p.toNat,by omega⟩;exact G_ g f a b w d hok
end
section
namespace Tm
def gj (a n:Int):Bool:=decide (1<=n) && decide (0<=a) && decide (a<=1048576 - n)
theorem tY (a n:Int):gj a n= true↔1<=n/\0<=a/\a<=1048576 - n:=by simp only [gj,N6,decide_eq_true_eq,and_assoc]
def bp (t a n:Int) (g:Nat):Bool:=if t= 0 then decide (a= 0) && decide (n= 0) else if t= 1 then decide (1<=g) && gj a n else if t= 2 then decide (1<=g) && gj a n else false
theorem mL (a n:Int) (g:Nat):bp 0 a n g= (decide (a= 0) && decide (n= 0)):=by unfold bp;rw [if_pos rfl]
theorem qy (a n:Int) (g:Nat):bp 1 a n g= (decide (1<=g) && gj a n):=by unfold bp;rw [if_neg (by decide),if_pos rfl]
theorem tZ (a n:Int) (g:Nat):bp 2 a n g= (decide (1<=g) && gj a n):=by unfold bp;rw [if_neg (by decide),if_neg (by decide),if_pos rfl]
theorem yT (t a n:Int) (g:Nat) (c:t≠0) (h1:t≠1) (b:t≠2):bp t a n g= false:=by unfold bp;rw [if_neg c,if_neg h1,if_neg b]
variable{g:Nat}
theorem jK {t a n:Int} (h:bp t a n g):0<=t/\t<=2/\0<=a/\a<=1048576/\0<=n/\n<=1048576:=by
 by_cases c:t= 0;· subst c;rw [mL,N6,decide_eq_true_eq,decide_eq_true_eq]at h;omega
 ·by_cases h1:t= 1;· subst h1;rw [qy,N6,tY]at h;omega
  ·by_cases b:t= 2;· subst b;rw [tZ,N6,tY]at h;omega
   ·rw [yT t a n g c h1 b]at h;cases h
def ts:zL:= [79,65,75,83]
def zs:zN:= [1,4,4,4]
theorem lay:Sc.Lay ts zs:=⟨rfl,by decide,by decide⟩
theorem iA:Om.off zs zs.length= 13:=by decide
def ag (t a n:Int) (g:Nat):List Nat:= [t.toNat,a.toNat,n.toNat,g]
theorem fit (t a n:Int) (g:Nat) (c:g<4294967296) (h:bp t a n g):Om.gK zs (ag t a n g) zs.length= true:=by obtain ⟨h1,k,j,f,e,d⟩:=jK h;rw [Om.kQ];intro i hi;have b:i<4:=hi;match i,b with
 | 0,_=>show t.toNat<256 ^ 1;omega
 | 1,_=>show a.toNat<256 ^ 4;omega
 | 2,_=>show n.toNat<256 ^ 4;omega
 | 3,_=>show g<256 ^ 4;omega
theorem jy (t a n:Int) (g:Nat) (b:g<4294967296) (h:bp t a n g):gO zs (ag t a n g)= Om.ct zs (ag t a n g) zs.length/\gP zs (ag t a n g)= 0:= nC zs (ag t a n g) rfl (by decide) (fit t a n g b h)
def ah (t a n:Int) (g:Nat):zL:=Sc.ah ts zs (ag t a n g)
theorem bD (t a n:Int) (g:Nat):(ah t a n g).length= 64:=Sc.bD lay _
def encS (t a n:Int) (g:Nat):zL:=if bp t a n g= true then ah t a n g else []
def dC (t a n:Int) (g:Nat):Int:=if bp t a n g= true then 0 else 1
theorem eI {t a n:Int} (h:bp t a n g):encS t a n g= ah t a n g/\dC t a n g= 0:=by unfold encS dC;rw [if_pos h,if_pos h];exact ⟨rfl,rfl⟩
theorem iB {t a n:Int} (h:bp t a n g= false):encS t a n g= []/\dC t a n g= 1:=by unfold encS dC;rw [if_neg (by rw [h];decide),if_neg (by rw [h];decide)];exact ⟨rfl,rfl⟩
def dr (a b c d:Nat):Bool:=bp a b c d
def av (s:zL):Int:=if Sc.cx ts zs s= 0 then if dr (Sc.az zs s 0) (Sc.az zs s 1) (Sc.az zs s 2) (Sc.az zs s 3)= true then 0 else 32 else Sc.cx ts zs s
def ev (s:zL):Nat:=if av s= 0 then Sc.az zs s 0 else 0
def bN (s:zL):Nat:=if av s= 0 then Sc.az zs s 1 else 0
def bO (s:zL):Nat:=if av s= 0 then Sc.az zs s 2 else 0
def aH (s:zL):Nat:=if av s= 0 then Sc.az zs s 3 else 0
theorem gx (s:zL) (h:av s≠0):ev s= 0/\bN s= 0/\bO s= 0/\aH s= 0:=by unfold ev bN bO aH;rw [if_neg h,if_neg h,if_neg h,if_neg h];exact ⟨rfl,rfl,rfl,rfl⟩
theorem gy (s:zL) (x:Int) (h:Sc.cx ts zs s= x) (a:x≠0):av s= x/\ev s= 0/\bN s= 0/\bO s= 0/\aH s= 0:=by
 have e:av s= x:=by unfold av;rw [h,if_neg a]
 exact ⟨e,gx s (by rw [e];exact a)⟩
theorem kX (s:zL) (h:Sc.cx ts zs s= 0) (a:dr (Sc.az zs s 0) (Sc.az zs s 1) (Sc.az zs s 2) (Sc.az zs s 3)= false):av s= 32/\ev s= 0/\bN s= 0/\bO s= 0/\aH s= 0:=by
 have e:av s= 32:=by unfold av;rw [if_pos h,if_neg (by rw [a];decide)]
 exact ⟨e,gx s (by rw [e];decide)⟩
theorem gQ (s:zL) (h:Sc.cx ts zs s= 0) (a:dr (Sc.az zs s 0) (Sc.az zs s 1) (Sc.az zs s 2) (Sc.az zs s 3)): av s= 0/\ev s= Sc.az zs s 0/\bN s= Sc.az zs s 1/\bO s= Sc.az zs s 2/\aH s= Sc.az zs s 3:=by
 have e:av s= 0:=by unfold av;rw [if_pos h,if_pos a]
 unfold ev bN bO aH;rw [if_pos e,if_pos e,if_pos e,if_pos e];exact ⟨e,rfl,rfl,rfl,rfl⟩
theorem back (t a n:Int) (g:Nat) (k:g<4294967296) (h:bp t a n g): av (ah t a n g)= 0/\(ev (ah t a n g):Int)= t/\(bN (ah t a n g):Int)= a/\(bO (ah t a n g):Int)= n/\aH (ah t a n g)= g:=by
 obtain ⟨h1,s,r,q,p,o⟩:=jK h;obtain ⟨l,b⟩:=Sc.back lay (ag t a n g) (fit t a n g k h);have n0:Sc.az zs (ah t a n g) 0= t.toNat:=b 0 (by decide);have n1:Sc.az zs (ah t a n g) 1= a.toNat:=b 1 (by decide);have d:Sc.az zs (ah t a n g) 2= n.toNat:=b 2 (by decide);have c:Sc.az zs (ah t a n g) 3= g:=b 3 (by decide);have e:((t.toNat:Nat):Int)= t:=by omega
 have i:((a.toNat:Nat):Int)= a:=by omega
 have f:((n.toNat:Nat):Int)= n:=by omega
 have j:dr (Sc.az zs (ah t a n g) 0) (Sc.az zs (ah t a n g) 1) (Sc.az zs (ah t a n g) 2) (Sc.az zs (ah t a n g) 3):=by rw [n0,n1,d,c];unfold dr;rw [e,i,f];exact h
 obtain ⟨d0,d1,d2,d3,m⟩:=gQ (ah t a n g) l j;exact ⟨d0,by rw [d1,n0,e],by rw [d2,n1,i],by rw [d3,d,f],by rw [m,c]⟩
end Tm
end
section
namespace Um
def ts:zL:= [79,65,75,49]
def zs:zN:= [4,4,4]
theorem lay:Sc.Lay ts zs:=⟨rfl,by decide,by decide⟩
theorem iA:Om.off zs zs.length= 12:=by decide
def ag (a n g:Int):List Nat:= [a.toNat,n.toNat,g.toNat]
theorem fit (a n g:Int) (h:aj a n g):Om.gK zs (ag a n g) zs.length= true:=by obtain ⟨h1,j,f,e,d,c⟩:=cT h;rw [Om.kQ];intro i hi;have b:i<3:=hi;match i,b with
 | 0,_=>show a.toNat<256 ^ 4;omega
 | 1,_=>show n.toNat<256 ^ 4;omega
 | 2,_=>show g.toNat<256 ^ 4;omega
theorem jy (a n g:Int) (h:aj a n g):gO zs (ag a n g)= Om.ct zs (ag a n g) zs.length/\gP zs (ag a n g)= 0:= nC zs (ag a n g) rfl (by decide) (fit a n g h)
def ah (a n g:Int):zL:=Sc.ah ts zs (ag a n g)
theorem bD (a n g:Int):(ah a n g).length= 64:=Sc.bD lay _
def encS (a n g:Int):zL:=if aj a n g= true then ah a n g else []
def dC (a n g:Int):Int:=if aj a n g= true then 0 else 1
theorem eI {a n g:Int} (h:aj a n g):encS a n g= ah a n g/\dC a n g= 0:=by unfold encS dC;rw [if_pos h,if_pos h];exact ⟨rfl,rfl⟩
theorem iB {a n g:Int} (h:aj a n g= false):encS a n g= []/\dC a n g= 1:=by unfold encS dC;rw [if_neg (by rw [h];decide),if_neg (by rw [h];decide)];exact ⟨rfl,rfl⟩
def dr (a b c:Nat):Bool:=aj a b c
def av (s:zL):Int:=if Sc.cx ts zs s= 0 then if dr (Sc.az zs s 0) (Sc.az zs s 1) (Sc.az zs s 2)= true then 0 else 32 else Sc.cx ts zs s
def bN (s:zL):Nat:=if av s= 0 then Sc.az zs s 0 else 0
def bO (s:zL):Nat:=if av s= 0 then Sc.az zs s 1 else 0
def aH (s:zL):Nat:=if av s= 0 then Sc.az zs s 2 else 0
theorem gx (s:zL) (h:av s≠0):bN s= 0/\bO s= 0/\aH s= 0:=by unfold bN bO aH;rw [if_neg h,if_neg h,if_neg h];exact ⟨rfl,rfl,rfl⟩
theorem gy (s:zL) (x:Int) (h:Sc.cx ts zs s= x) (a:x≠0):av s= x/\bN s= 0/\bO s= 0/\aH s= 0:=by
 have e:av s= x:=by unfold av;rw [h,if_neg a]
 exact ⟨e,gx s (by rw [e];exact a)⟩
theorem kX (s:zL) (h:Sc.cx ts zs s= 0) (a:dr (Sc.az zs s 0) (Sc.az zs s 1) (Sc.az zs s 2)= false):av s= 32/\bN s= 0/\bO s= 0/\aH s= 0:=by
 have e:av s= 32:=by unfold av;rw [if_pos h,if_neg (by rw [a];decide)]
 exact ⟨e,gx s (by rw [e];decide)⟩
theorem gQ (s:zL) (h:Sc.cx ts zs s= 0) (a:dr (Sc.az zs s 0) (Sc.az zs s 1) (Sc.az zs s 2)): av s= 0/\bN s= Sc.az zs s 0/\bO s= Sc.az zs s 1/\aH s= Sc.az zs s 2:=by
 have e:av s= 0:=by unfold av;rw [if_pos h,if_pos a]
 unfold bN bO aH;rw [if_pos e,if_pos e,if_pos e];exact ⟨e,rfl,rfl,rfl⟩
theorem sR (s:zL) (h:av s= 0):Sc.cx ts zs s= 0/\dr (Sc.az zs s 0) (Sc.az zs s 1) (Sc.az zs s 2)= true:=by
 unfold av at h;by_cases h1:Sc.cx ts zs s= 0;·
  rw [if_pos h1]at h;by_cases a:dr (Sc.az zs s 0) (Sc.az zs s 1) (Sc.az zs s 2)= true;· exact ⟨h1,a⟩
  ·rw [if_neg a]at h;cases h
 ·rw [if_neg h1]at h;exact absurd h h1
theorem back (a n g:Int) (h:aj a n g): av (ah a n g)= 0/\(bN (ah a n g):Int)= a/\(bO (ah a n g):Int)= n/\(aH (ah a n g):Int)= g:=by
 obtain ⟨h1,p,o,m,l,k⟩:=cT h;obtain ⟨j,b⟩:=Sc.back lay (ag a n g) (fit a n g h);have n0:Sc.az zs (ah a n g) 0= a.toNat:=b 0 (by decide);have n1:Sc.az zs (ah a n g) 1= n.toNat:=b 1 (by decide);have c:Sc.az zs (ah a n g) 2= g.toNat:=b 2 (by decide);have f:((a.toNat:Nat):Int)= a:=by omega
 have d:((n.toNat:Nat):Int)= n:=by omega
 have e:((g.toNat:Nat):Int)= g:=by omega
 have i:dr (Sc.az zs (ah a n g) 0) (Sc.az zs (ah a n g) 1) (Sc.az zs (ah a n g) 2):=by rw [n0,n1,c];unfold dr;rw [f,d,e];exact h
 obtain ⟨d0,d1,d2,d3⟩:=gQ (ah a n g) j i;exact ⟨d0,by rw [d1,n0,f],by rw [d2,n1,d],by rw [d3,c,e]⟩
theorem again (s:zL) (h:av s= 0):aj (bN s) (bO s) (aH s)= true/\ah (bN s) (bO s) (aH s)= s:=by obtain ⟨h1,c⟩:=sR s h;obtain ⟨_,d1,d2,d3⟩:=gQ s h1 c;have b:=c;unfold dr at b;rw [d1,d2,d3];refine ⟨b,Sc.again lay s h1 _ λi hi=>?_⟩;have a:i<3:=hi;match i,a with
 | 0,_=>rfl
 | 1,_=>rfl
 | 2,_=>rfl
end Um
end
section
open Go.RowKit
theorem JI (w:World):zF 149 #[] w λ e w'=>e= nf (zS w.heap.size 3 3)/\Row w' w'.heap.size (some ⟨w.heap.size,0,none⟩) 3 (bz Um.zs)/\zB w w':=by
 have b:(w.alloc (zK 4 4 4 3)).ownsRow w.heap.size 3 1 (zS w.heap.size 3 3) 3 [zI 4,zI 4,zI 4]:=VX w #[zI 4,zI 4,zI 4] 3 (nm _) (by unfold maxLen;omega) rfl
 have a:Row (w.alloc (zK 4 4 4 3)) (w.alloc (zK 4 4 4 3)).heap.size (some ⟨w.heap.size,0,none⟩) 3 (bz Um.zs):=Row.own b (λ i hi=>by
 match i,hi with
 | 0,_=>rfl
 | 1,_=>rfl
 | 2,_=>rfl)
 have d:Hid (zB w (w.alloc (zK 4 4 4 3))):=zA
 have c:=hT a
 clear b a
 go_enter func149,ntmps149
 go_wp2
 go_ret
 exact ⟨rfl,c.out,d.out⟩
theorem ot (x:Int) (w:World):zF 200 #[.bool true,zI x] w (zQ (CE #[]) w):=by go_enter func200,ntmps200;go_wp2;go_end0;exact ⟨rfl,rfl⟩
theorem dy (x:Int) (w:World):zF 200 #[.bool false,zI x] w λe w'=>e= .panicked [{v:= .iface 200 (.agg #[zI x]),recovered:=false}]/\w= w':=by go_enter func200,ntmps200;go_wp2;exact ⟨rfl,rfl,rfl⟩
theorem JJ (x:Int) (w:World):(Vn (.iface 200 (.agg #[zI x])) 20 200 true).run prog w= .ok (CE #[.agg #[zI x], .bool true]) w:=by kernel_rfl
theorem JK (w:World):(Vn .nilIface 20 200 true).run prog w= .ok (CE #[.agg #[zI 0], .bool false]) w:=by kernel_rfl
end
section
open Go.RowKit
theorem JL (a n g:Int) (w:World) (b:Um.aj a n g= false): zF 94 #[Uv a n g] w λe w'=>e= zV (.string (Om.B [])) (zI 1)/\zB w w':=by have R:=hT (λw1=>nT a n g w1);rw [b]at R;have d:Hid (zB w (w.alloc (zK a n g 23))):=zA;unfold Uv at R⊢;clear b;go_enter func94,ntmps94;go_wp2_with fail;refine zg (R.out _) λw1 hb=>?_;have c:=zT d hb;clear hb;go_wp2;go_ret2;exact ⟨rfl,c.out⟩
theorem qB (w:World):zF 149 #[] w λe w'=>∃k,e= nf (zS k 3 3)/\Row w' w'.heap.size (some ⟨k,0,none⟩) 3 (bz Um.zs)/\zB w w':= (JI w).mono λe w' h=>⟨w.heap.size,h⟩
def jh (a n g:Nat):Obj:= hV #[.int wb (wb.wrap (a:Int)), .int wb (wb.wrap (n:Int)), .int wb (wb.wrap (g:Int))] 197
theorem yW (a n g:Nat):Um.ag a n g= [a,n,g]:=by unfold Um.ag;rw [GH,GH,GH]
theorem yX (a n g:Nat) (W:World) (j:a<=1048576) (e:n<=1048576) (f:g<=128):Row (W.alloc (jh a n g)) (W.alloc (jh a n g)).heap.size (some ⟨W.heap.size,0,none⟩) 3 (gN (Um.ag a n g)):=λ_=> ⟨W.heap.size,0,rfl,by simp,λi hi=>by have h:=heap_alloc_new W (jh a n g);have d:wb.wrap (a:Int)= (a:Int):=T6 _ (by omega);have c:wb.wrap (n:Int)= (n:Int):=T6 _ (by omega);have b:wb.wrap (g:Int)= (g:Int):=T6 _ (by omega);unfold jh at h⊢;rw [d,c,b]at h⊢;rw [cell_of_row _ _ _ _ _ _ h,yW];match i,hi with
 | 0,_=>rfl
 | 1,_=>rfl
 | 2,_=>rfl⟩
theorem yY (a n g:Nat) (d:a<=1048576) (b:n<=1048576) (c:g<=128) (i:Nat):(Um.ag a n g).getD i 0<18446744073709551616:=by rw [yW];match i with
 | 0=>show a<_;omega
 | 1=>show n<_;omega
 | 2=>show g<_;omega
 | j+3=>show 0<_;omega
theorem JM (a n g:Nat) (b:Um.aj a n g) (W:World) (ks:Nat) (h:Row W W.heap.size (some ⟨ks,0,none⟩) 3 (bz Um.zs)): zF 148 #[zS ks 3 3, zS W.heap.size 3 3] (W.alloc (jh a n g)) λe w'=>e= zV (.string (Om.B (Om.ct Um.zs (Um.ag a n g) 3))) (zI 0)/\zB W w':=by obtain ⟨q,p,o,m,l,k⟩:=Um.cT b;have c:zB W (W.alloc (jh a n g)):=(G3 _ W).alloc (nm _) _;have f:=Um.jy a n g b;have i:(Um.ag a n g).length= 3:=rfl;refine (mj Um.zs (Um.ag a n g) _ _ _ 3 3 3 3 _ rfl i (by omega) (by omega) (nm _) ((h.below c).more c.size) (yX a n g W (by omega) (by omega) (by omega)) (yY a n g (by omega) (by omega) (by omega))).mono ?_;rw [f.1,f.2];rintro e w' ⟨j,d⟩;exact ⟨j,c.trans (d.mono c.size)⟩
theorem JN (a n g:Nat) (b:Um.aj a n g) (W:World) (ks kn:Nat) (f:Row W W.heap.size (some ⟨ks,0,none⟩) 3 (bz Um.zs)) (h:Row W W.heap.size (some ⟨kn,0,none⟩) 3 (gN (Um.ag a n g))): zF 148 #[zS ks 3 3, zS kn 3 3] W λe w'=>e= zV (.string (Om.B (Om.ct Um.zs (Um.ag a n g) 3))) (zI 0)/\zB W w':=by obtain ⟨q,p,o,m,l,k⟩:=Um.cT b;have d:=Um.jy a n g b;have i:(Um.ag a n g).length= 3:=rfl;refine (mj Um.zs (Um.ag a n g) _ _ _ 3 3 3 3 _ rfl i (by omega) (by omega) (nm _) f h (yY a n g (by omega) (by omega) (by omega))).mono ?_;rw [d.1,d.2];rintro e w' ⟨j,c⟩;exact ⟨j,c⟩
theorem JO {a n g:Nat} {w1 w2:World} (b:Um.aj a n g) (h:Below (w1.drew.alloc (jh a n g)).heap.size (w1.drew.alloc (jh a n g)) w2): Row w2 w2.heap.size (some ⟨w1.heap.size,0,none⟩) 3 (gN (Um.ag a n g))/\zB w1 w2:=by obtain ⟨k,j,i,f,e,d⟩:=Um.cT b;have c:zB w1 (w1.drew.alloc (jh a n g)):=(G3 _ w1).drew.alloc (nm _) _;exact ⟨((yX a n g w1.drew (by omega) (by omega) (by omega)).below h).more h.size,c.trans (h.mono c.size)⟩
theorem JP (l:zL) (w:World) (h:l.length<=60): zF 150 #[.string (Om.B l),zI 64] w λe w'=>e= zV (.string (Om.B (ff l 60))) (zI 0)/\zB w w':=pH l 60 w (by omega) h
theorem JQ (a n g:Nat) (w:World) (c:Um.aj a n g): zF 94 #[Uv a n g] w λe w'=>e= zV (.string (Om.B (Um.ah a n g))) (zI 0)/\zB w w':=by
 obtain ⟨K,I,H,G,F,E⟩:=Um.cT c;have R:=hT (λw1=>nT a n g w1);rw [c]at R;have m:=hT (jc w a n g 23);have z:Hid (zB w (w.alloc (zK a n g 23))):=zA;obtain ⟨L,o⟩:=eX2 (w.alloc (zK a n g 23));rw [o]at z m;obtain ⟨s,r,a1,a2⟩:=m.out;have x:=hT qB;have J:=hT (JM a n g c);have y:=hT (JN a n g c);have M:=hT (λ(w1 w2:World)=>JO (w1:=w1) (w2:=w2) c);obtain ⟨body,b⟩:=eX1 (Om.ct Um.zs (Um.ag a n g) 3);have k:body.length= 12:=by rw [b,Om.kb Um.zs _ 3 (by decide)];exact Um.iA
 have i:Um.ah a n g= ff (Um.ts ++ body) 60:=by rw [b];rfl
 have C:=hT (λw1=>JP (Um.ts ++ body) w1 (by rw [DC,k];decide));have v:=jx Um.ts body (by rw [k];decide);have A:(⟨#[79,65,75,49]⟩:ByteArray) ++ Om.B body= Om.B (Um.ts ++ body):=Om.fy Um.ts body;rw [<-b]at J y;rw [i];unfold jh at J M;unfold Uv at R⊢;clear c b i k;go_enter func94,ntmps94;go_wp2_with fail;clear o;refine zg (R.out _) λw1 hb=>?_;have q:=zT z hb;have u:=hT (m.out.next hb);clear hb r a1 a2 s;obtain ⟨j,r,a1,a2⟩:=u.out;go_wp2;go_region_held3 (λw'=>w'.cell? (zz w 0)= some (zI a)/\w'.cell? (zz w 1)= some (zI n)/\w'.cell? (zz w 2)= some (zI g)) (first|go_keep|(refine ⟨?_,?_,?_⟩<;>assumption)|(exact ⟨(h.out.cell (p:=(zz w 0)) j).trans r,(h.out.cell (p:=(zz w 1)) j).trans a1,(h.out.cell (p:=(zz w 2)) j).trans a2⟩)) (first|(go_at_call 149;refine (x.out _).mono ?_;rintro e w2 ⟨ks,rfl,f,d⟩;have h:Hid (zB w1 w2):=zR.drew.trans d;have l:=hT f;clear d f)|(go_at_call 149;refine (x.out _).mono ?_;rintro e w2 ⟨ks,rfl,f,d⟩;have D:=hT (M.out _ _ d).1;have h:=hT (M.out _ _ d).2;have l:=hT f;clear d f)|(go_at_call 148;refine zg (y.out _ _ _ l.out D.out) λw4 hb4=>?_;have BY:=h;have h:Hid (zB w1 w4):=zH BY hb4;clear hb4)|(go_at_call 148;refine zg (J.out _ _ l.out) λw4 hb4=>?_;have BY:=h;have h:Hid (zB w1 w4):=zH BY hb4;clear hb4));all_goals clear r a1 a2;go_wp2_with fail;refine zg (C.out _) λw5 hb5=>?_;have t:=hT (q.out.trans ((zH h hb5).mono q.out.size));clear hb5;go_wp2;go_ret2;exact ⟨rfl,t.out⟩
theorem JR (a n g:Int) (w:World): zF 94 #[Uv a n g] w λe w'=>e= zV (.string (Om.B (Um.encS a n g))) (zI (Um.dC a n g))/\zB w w':=by cases hok:Um.aj a n g with
 | false => rw [(Um.iB hok).1,(Um.iB hok).2];exact JL a n g w hok
 | true => rw [(Um.eI hok).1,(Um.eI hok).2];obtain ⟨l,k,j,i,h,f⟩:=Um.cT hok;obtain ⟨d,rfl⟩:∃m:Nat,a= (m:Int):=⟨a.toNat,by omega⟩;obtain ⟨b,rfl⟩:∃m:Nat,n= (m:Int):=⟨n.toNat,by omega⟩;obtain ⟨c,rfl⟩:∃m:Nat,g= (m:Int):=⟨g.toNat,by omega⟩;exact JQ d b c w hok
end
section
open Go.RowKit
theorem JS {p q:zL} (h:p= q):((Om.B p).toList == (Om.B q).toList)= true:=by rw [h];exact beq_self_eq_true _
theorem yZ (l q:zL) (w:World) (h:q.length<=l.length): zF 238 #[.string (Om.B l), .string (Om.B q)] w (zQ (.bool ((Om.B (l.take q.length)).toList == (Om.B q).toList)) w):=by
 have d1:decide (((Om.B q).size:Int)<=((Om.B l).size:Int)):=by rw [Om.aG,Om.aG];simp;exact h
 have a:(Om.B l).extract 0 (Om.B q).size= Om.B (l.take q.length):=by rw [Om.pj,Om.fx,Om.aG]
 have b:(0:Int)<=((Om.B q).size:Int):=by omega
 have h1:((Om.B q).size:Int)<=((Om.B l).size:Int):=by simpa using d1
 clear h;go_enter func238,ntmps238;go_wp2;go_ret;exact ⟨rfl,rfl⟩
theorem JT (l q:zL):(Om.B l).extract q.length (Om.B l).size= Om.B (l.drop q.length):=by rw [Om.j_,Om.fx]
theorem JU (l q:zL) (w:World) (h:q.length<=l.length) (d:l.take q.length= q): zF 203 #[.string (Om.B l), .string (Om.B q)] w λe w'=>e= zV (.string (Om.B (l.drop q.length))) (.bool true)/\w= w':=by
 have C:=hT (λw1=>yZ l q w1 h);rw [JS d]at C;have b:=JT l q;have c:(Om.B q).size= q.length:=rfl;have f:(0:Int)<=((Om.B q).size:Int):=by omega
 have h1:((Om.B q).size:Int)<=((Om.B l).size:Int):=by rw [Om.aG,Om.aG];omega
 rw [<-c]at b;obtain ⟨r,a⟩:=eX1 (Om.B (l.drop (Om.B q).size));rw [<-a]at b;rw [show l.drop q.length= l.drop (Om.B q).size from rfl,<-a];clear h d c a;go_enter func203,ntmps203;go_wp2_with fail;refine zh (C.out _) ?_;go_wp2;go_ret2;exact ⟨rfl,rfl⟩
theorem JV (l q:zL) (w:World) (h:q.length<=l.length) (a:l.take q.length≠q): zF 203 #[.string (Om.B l), .string (Om.B q)] w λe w'=>e= zV (.string (Om.B l)) (.bool false)/\w= w':=by have C:=hT (λw1=>yZ l q w1 h);rw [xd a]at C;clear h a;go_enter func203,ntmps203;go_wp2_with fail;refine zh (C.out _) ?_;go_wp2;go_ret2;exact ⟨rfl,rfl⟩
theorem lA (l q:zL) (w:World) (h:q.length<=l.length) (a:l.take q.length= q): zF 156 #[.string (Om.B l), .string (Om.B q)] w λe w'=>e= zV (.string (Om.B (l.drop q.length))) (.bool true)/\w= w':=by have C:=hT (λw1=>JU l q w1 h a);clear h a;go_enter func156,ntmps156;go_wp2_with fail;refine zh (C.out _) ?_;go_wp2;go_ret2;exact ⟨rfl,rfl⟩
theorem uc (l q:zL) (w:World) (h:q.length<=l.length) (a:l.take q.length≠q): zF 156 #[.string (Om.B l), .string (Om.B q)] w λe w'=>e= zV (.string (Om.B l)) (.bool false)/\w= w':=by have C:=hT (λw1=>JV l q w1 h a);clear h a;go_enter func156,ntmps156;go_wp2_with fail;refine zh (C.out _) ?_;go_wp2;go_ret2;exact ⟨rfl,rfl⟩
end
section
open Go.RowKit
def gG (x:Int):Ending:= .panicked [{v:= .iface 200 (.agg #[zI x]),recovered:=false}]
def kx (r:zL) (n0 n1 n2:Nat) (w:World) (e:Ending) (w':World):Prop:= ∃ nb : Nat, e = nf (CE #[.slice (some ⟨nb, 0, none⟩) 3 3, .string (Om.B r),zI 0]) /\ nb < w'.heap.size /\ w'.cell? (zD nb 0)= some (.int wb n0)/\w'.cell? (zD nb 1)= some (.int wb n1)/\w'.cell? (zD nb 2)= some (.int wb n2)/\zB w w'
theorem JW (q:zL) (h:12<=q.length) (a:Option Addr) (cap:Nat) (w:World) (f:Row w w.heap.size a 3 (bz Um.zs)): zF 201 #[.string (Om.B q), .slice a 3 cap] w (kx (q.drop 12) (Om.at_ q Um.zs 0) (Om.at_ q Um.zs 1) (Om.at_ q Um.zs 2) w):=by refine (qA q Um.zs w.heap.size a 3 cap w rfl (by omega) (nm _) f (by decide) (by rw [show Om.off Um.zs 3= 12 by decide];exact h)).mono ?_;rintro e w' ⟨d,c,_,i,b,g⟩;rw [show Om.off Um.zs 3= 12 by decide]at c;exact ⟨d,c,i,b 0 (by omega),b 1 (by omega),b 2 (by omega),g⟩
theorem mM (w W0:World) (h:w.alloc (zK 0 0 0 23)= W0): zB w W0/\W0.heap[w.heap.size]?= some (hV #[zI 0,zI 0,zI 0] 23 (0,0))/\w.heap.size<W0.heap.size:=by subst h;have h1:=heap_alloc_new w (zK 0 0 0 23);exact ⟨zA,h1,(DN.1 h1).1⟩
theorem y_ {W:World} {g:Nat} {t:TypeId} (h:W.heap[g]?= some (hV #[zI 0,zI 0,zI 0] t (0,0))): W.cell? (zD g 0)= some (zI 0)/\W.cell? (zD g 1)= some (zI 0)/\W.cell? (zD g 2)= some (zI 0)/\∀j,W.frozen? (zD g j)= false:= ⟨zW h,zW h,zW h,λj=>frozen_of_row (j:=j) _ _ _ _ h⟩
theorem JX:(prog.info? 23).map (·.size)= some (#[zI 0,zI 0,zI 0]:Array Value).size:=by kernel_rfl
theorem JY (s:zL) (w:World) (h:s.length≠64): zF 152 #[.string (Om.B s)] w λe w'=>e= gG 21/\zB w w':=by
 have heq:(((Om.B s).size:Int) == 64)= false:=by rw [beq_eq_false_iff_ne,Om.aG];omega
 obtain ⟨d,a⟩:=eX2 (w.alloc (zK 0 0 0 23));obtain ⟨b,c,lt⟩:=mM w d a;have g:=hT b;have f:=hT dy;unfold gG;clear h b c lt;go_enter func152,ntmps152;go_wp2_with fail;clear a;refine zh (f.out _ _) ?_;go_wp2;exact ⟨rfl,rfl,g.out⟩
theorem JZ (s:zL) (w:World) (h:s.length= 64) (d:Cm.aN s= false): zF 152 #[.string (Om.B s)] w λe w'=>e= gG 31/\zB w w':=by
 have heq:(((Om.B s).size:Int) == 64):=by rw [beq_iff_eq,Om.aG];omega
 have b:=λw1=>fS s w1 (by omega) (by omega);rw [d]at b;have C:=hT b;obtain ⟨k,a⟩:=eX2 (w.alloc (zK 0 0 0 23));obtain ⟨g,j,lt⟩:=mM w k a;have n:=hT g;have l:=hT ot;have m:=hT dy;unfold gG;clear h g j lt d b;go_enter func152,ntmps152;go_wp2_with fail;clear a;refine zh (l.out _ _) ?_;go_wp2_with fail;refine (C.out _).mono ?_;rintro e w2 ⟨i,f⟩;obtain rfl:e= zV (.string (Om.B [])) (zI 31):=i;have c:=zT n f;clear f;go_wp2_with fail;refine zh (m.out _ _) ?_;go_wp2;exact ⟨rfl,rfl,c.out⟩
theorem J0 (s:zL) (w:World) (h:s.length= 64) (k:Cm.aN s) (g:(s.take 60).take 4≠Um.ts): zF 152 #[.string (Om.B s)] w λe w'=>e= gG 22/\zB w w':=by
 have heq:(((Om.B s).size:Int) == 64):=by rw [beq_iff_eq,Om.aG];omega
 have i:=λw1=>fS s w1 (by omega) (by omega);have a:(s.take 60).length= 60:=by rw [E4];omega
 rw [k,h]at i;obtain ⟨b,j⟩:=eX1 (s.take 60);have d:∀w1,zF 155 #[.string (Om.B s)] w1 λe w'=>e= zV (.string (Om.B b)) (zI 0)/\zB w1 w':=λw1=>by rw [j];exact (i w1).mono λe w' h=>h
 rw [<-j]at g a;have C:=hT d;have M:=hT (λw1=>uc b Um.ts w1 (by rw [a];decide) g);have c:Om.B Um.ts= ⟨#[79,65,75,49]⟩:=rfl;rw [c]at M;obtain ⟨p,f⟩:=eX2 (w.alloc (zK 0 0 0 23));obtain ⟨l,o,lt⟩:=mM w p f;have n:=hT l;have m:=hT ot;have q:=hT dy;unfold gG;clear h l o lt k i d g j c a;go_enter func152,ntmps152;go_wp2_with fail;clear f;refine zh (m.out _ _) ?_;go_wp2_with fail;refine zg (C.out _) λw2 hb2=>?_;have r:=hT hb2;clear hb2;go_wp2_with fail;refine zh (m.out _ _) ?_;go_wp2_with fail;refine zh (M.out _) ?_;go_wp2_with fail;refine zh (q.out _ _) ?_;go_wp2;exact ⟨rfl,rfl,n.out.trans (r.out.mono n.out.size)⟩
theorem J3 (s:zL) (q r:zL) (n0 n1 n2:Nat) (w:World) (h:s.length= 64) (x:Cm.aN s) (n:(s.take 60).take 4= Um.ts) (v:q= (s.take 60).drop 4) (G:Hid (∀a cap w1,Row w1 w1.heap.size a 3 (bz Um.zs)->zF 201 #[.string (Om.B q), .slice a 3 cap] w1 (kx r n0 n1 n2 w1))) (Z:Hid (∀w1,zF 202 #[.string (Om.B r)] w1 λe w'=>e= nf (.bool false)/\w1= w')): zF 152 #[.string (Om.B s)] w λe w'=>e= gG 32/\zB w w':=by
 have heq:(((Om.B s).size:Int) == 64):=by rw [beq_iff_eq,Om.aG];omega
 have p:=λw1=>fS s w1 (by omega) (by omega);have c:(s.take 60).length= 60:=by rw [E4];omega
 rw [x,h]at p;obtain ⟨b,m⟩:=eX1 (s.take 60);have i:∀w1,zF 155 #[.string (Om.B s)] w1 λe w'=>e= zV (.string (Om.B b)) (zI 0)/\zB w1 w':=λw1=>by rw [m];exact (p w1).mono λe w' h=>h
 rw [<-m]at n c;have C:=hT i;have M:=hT (λw1=>lA b Um.ts w1 (by rw [c];decide) n);have d:Om.B Um.ts= ⟨#[79,65,75,49]⟩:=rfl;rw [d,show b.drop Um.ts.length= b.drop 4 from rfl]at M;have g:b.drop 4= q:=by rw [v,m]
 rw [g]at M;have H:=hT qB;unfold kx at G;obtain ⟨F,l⟩:=eX2 (w.alloc (zK 0 0 0 23));obtain ⟨y,E,lt⟩:=mM w F l;have z:=hT y;have t:=hT ot;have I:=hT dy;unfold gG;clear h y E lt x p i n m d c v g;go_enter func152,ntmps152;go_wp2_with fail;clear l;refine zh (t.out _ _) ?_;go_wp2_with fail;refine zg (C.out _) λw2 hb2=>?_;have D:=hT hb2;clear hb2;go_wp2_with fail;refine zh (t.out _ _) ?_;go_wp2_with fail;refine zh (M.out _) ?_;go_wp2_with fail;refine zh (t.out _ _) ?_;go_wp2_with fail;refine (H.out _).mono ?_;rintro e L ⟨ks,rfl,f,k⟩;have u:=hT f;have A:=zT D k;clear f k D;go_wp2_with fail;refine (G.out _ _ _ u.out).mono ?_;rintro e K ⟨N,rfl,o,c0,c1,c2,j⟩;have J:=zT A j;clear j A;go_wp2_with fail;refine zh (Z.out _) ?_;go_wp2_with fail;clear c0 c1 c2 o;refine zh (I.out _ _) ?_;go_wp2;exact ⟨rfl,rfl,z.out.trans (J.out.mono z.out.size)⟩
theorem J4 (s:zL) (q r:zL) (n0 n1 n2:Nat) (w:World) (h:s.length= 64) (F:Cm.aN s) (v:(s.take 60).take 4= Um.ts) (E:q= (s.take 60).drop 4) (k0:n0<4294967296) (k1:n1<4294967296) (k2:n2<4294967296) (G:Hid (∀a cap w1,Row w1 w1.heap.size a 3 (bz Um.zs)->zF 201 #[.string (Om.B q), .slice a 3 cap] w1 (kx r n0 n1 n2 w1))) (Z:Hid (∀w1,zF 202 #[.string (Om.B r)] w1 λe w'=>e= nf (.bool true)/\w1= w')) (R:Hid (∀w1,zF 88 #[Uv n0 n1 n2] w1 λe w'=>e= nf (.bool false)/\zB w1 w')): zF 152 #[.string (Om.B s)] w λe w'=>e= gG 32/\zB w w':=by
 have e0:lg.wrap (n0:Int)= (n0:Int):=rr _ (by omega);have Y:lg.wrap (n1:Int)= (n1:Int):=rr _ (by omega);have X:lg.wrap (n2:Int)= (n2:Int):=rr _ (by omega);have heq:(((Om.B s).size:Int) == 64):=by rw [beq_iff_eq,Om.aG];omega
 have y:=λw1=>fS s w1 (by omega) (by omega);have d:(s.take 60).length= 60:=by rw [E4];omega
 rw [F,h]at y;obtain ⟨b,p⟩:=eX1 (s.take 60);have j:∀w1,zF 155 #[.string (Om.B s)] w1 λe w'=>e= zV (.string (Om.B b)) (zI 0)/\zB w1 w':=λw1=>by rw [p];exact (y w1).mono λe w' h=>h
 rw [<-p]at v d;have C:=hT j;have M:=hT (λw1=>lA b Um.ts w1 (by rw [d];decide) v);have f:Om.B Um.ts= ⟨#[79,65,75,49]⟩:=rfl;rw [f,show b.drop Um.ts.length= b.drop 4 from rfl]at M;have i:b.drop 4= q:=by rw [E,p]
 rw [i]at M;have T:=hT qB;unfold kx at G;obtain ⟨S,n⟩:=eX2 (w.alloc (zK 0 0 0 23));obtain ⟨H,P,lt⟩:=mM w S n;have J:=hT H;have LT:=hT lt;have t:=hT ot;have U:=hT dy;unfold gG;unfold Uv at R;clear h H P lt F y j v p f d E i k0 k1 k2;go_enter func152,ntmps152;go_wp2_with fail;clear n;refine zh (t.out _ _) ?_;go_wp2_with fail;refine zg (C.out _) λw2 hb2=>?_;have N:=hT hb2;clear hb2;go_wp2_with fail;refine zh (t.out _ _) ?_;go_wp2_with fail;refine zh (M.out _) ?_;go_wp2_with fail;refine zh (t.out _ _) ?_;go_wp2_with fail;refine (T.out _).mono ?_;rintro e W ⟨ks,rfl,g,l⟩;have A:=hT g;have L:=zT N l;clear g l N;go_wp2_with fail;refine (G.out _ _ _ A.out).mono ?_;rintro e o ⟨u,rfl,x,c0,c1,c2,k⟩;have K:=zT L k;clear k L;go_wp2_with fail;refine zh (Z.out _) ?_;go_wp2_with fail;refine zh (t.out _ _) ?_;go_wp2;go_region_held3 (λw'=>w'.cell? (zD u 0)= some (.int wb n0)/\w'.cell? (zD u 1)= some (.int wb n1)/\w'.cell? (zD u 2)= some (.int wb n2)) (first|go_keep|(refine ⟨?_,?_,?_⟩<;>assumption)) (fail);obtain ⟨I,c⟩:=eX2 ((o.alloc (zK n0 n1 n2 23)).drew);have m:zB o I:=by rw [<-c];exact zA.drew
 have z:Ux I o.heap.size n0 n1 n2:=by rw [<-c];exact tl (heap_alloc_new o _)
 rw [c];have V:=zT K m;clear c c0 c1 c2 x m K;obtain ⟨O,Q,b1,b2⟩:=z;go_wp2_with fail;refine zg (R.out _) λw10 hb10=>?_;have D:=zT V hb10;clear hb10 Q b1 b2;go_wp2_with fail;refine zh (U.out _ _) ?_;go_wp2;exact ⟨rfl,rfl,J.out.trans (D.out.mono J.out.size)⟩
theorem J5 (s:zL) (q r:zL) (n0 n1 n2:Nat) (w:World) (h:s.length= 64) (O:Cm.aN s) (A:(s.take 60).take 4= Um.ts) (N:q= (s.take 60).drop 4) (k0:n0<4294967296) (k1:n1<4294967296) (k2:n2<4294967296) (G:Hid (∀a cap w1,Row w1 w1.heap.size a 3 (bz Um.zs)->zF 201 #[.string (Om.B q), .slice a 3 cap] w1 (kx r n0 n1 n2 w1))) (Z:Hid (∀w1,zF 202 #[.string (Om.B r)] w1 λe w'=>e= nf (.bool true)/\w1= w')) (R:Hid (∀w1,zF 88 #[Uv n0 n1 n2] w1 λe w'=>e= nf (.bool true)/\zB w1 w')): zF 152 #[.string (Om.B s)] w (zJ (Uv n0 n1 n2) w):=by
 have e0:lg.wrap (n0:Int)= (n0:Int):=rr _ (by omega);have e1:lg.wrap (n1:Int)= (n1:Int):=rr _ (by omega);have e2:lg.wrap (n2:Int)= (n2:Int):=rr _ (by omega);have heq:(((Om.B s).size:Int) == 64):=by rw [beq_iff_eq,Om.aG];omega
 have F:=λw1=>fS s w1 (by omega) (by omega);have d:(s.take 60).length= 60:=by rw [E4];omega
 rw [O,h]at F;obtain ⟨b,y⟩:=eX1 (s.take 60);have k:∀w1,zF 155 #[.string (Om.B s)] w1 λe w'=>e= zV (.string (Om.B b)) (zI 0)/\zB w1 w':=λw1=>by rw [y];exact (F w1).mono λe w' h=>h
 rw [<-y]at A d;have C:=hT k;have M:=hT (λw1=>lA b Um.ts w1 (by rw [d];decide) A);have g:Om.B Um.ts= ⟨#[79,65,75,49]⟩:=rfl;rw [g,show b.drop Um.ts.length= b.drop 4 from rfl]at M;have j:b.drop 4= q:=by rw [N,y]
 rw [j]at M;have SZ:=hT qB;unfold kx at G;obtain ⟨W0,o⟩:=eX2 (w.alloc (zK 0 0 0 23));obtain ⟨P,Q,lt⟩:=mM w W0 o;have U:=hT P;have H0:=hT Q;have LT:=hT lt;have u:=hT ot;unfold Uv at R⊢;clear h P Q lt O F k A y g d N j k0 k1 k2;go_enter func152,ntmps152;go_wp2_with fail;clear o;refine zh (u.out _ _) ?_;go_wp2_with fail;refine zg (C.out _) λw2 hb2=>?_;have X:=hT hb2;clear hb2;go_wp2_with fail;refine zh (u.out _ _) ?_;go_wp2_with fail;refine zh (M.out _) ?_;go_wp2_with fail;refine zh (u.out _ _) ?_;go_wp2_with fail;refine (SZ.out _).mono ?_;rintro e w6 ⟨ks,rfl,i,m⟩;have H:=hT i;have W:=zT X m;clear i m X;go_wp2_with fail;refine (G.out _ _ _ H.out).mono ?_;rintro e x ⟨z,rfl,E,c0,c1,c2,l⟩;have V:=zT W l;clear l W;go_wp2_with fail;refine zh (Z.out _) ?_;go_wp2_with fail;refine zh (u.out _ _) ?_;go_wp2;go_region_held3 (λw'=>w'.cell? (zD z 0)= some (.int wb n0)/\w'.cell? (zD z 1)= some (.int wb n1)/\w'.cell? (zD z 2)= some (.int wb n2)) (first|go_keep|(refine ⟨?_,?_,?_⟩<;>assumption)) (fail);obtain ⟨T,c⟩:=eX2 ((x.alloc (zK n0 n1 n2 23)).drew);have n:zB x T:=by rw [<-c];exact zA.drew
 have t:Ux T x.heap.size n0 n1 n2:=by rw [<-c];exact tl (heap_alloc_new x _)
 rw [c];have K:=zT V n;have J:=hT t;clear c c0 c1 c2 E n V;obtain ⟨Y,S,b1,b2⟩:=t;have D:=ti LT.out K.out.size;go_wp2_with fail;refine zg (R.out _) λw10 hb10=>?_;have L:=zT K hb10;have f:=(hb10.block _ D).trans ((K.out.block _ LT.out).trans H0.out);have I:=hT f;have v:=hT (U.out.trans (L.out.mono U.out.size));obtain ⟨z0,z1,z2,zf⟩:=y_ f;clear S b1 b2;obtain ⟨_,S,b1,b2⟩:=J.out.next hb10;clear hb10 f;go_wp2_with fail;refine zh (u.out _ _) ?_;go_wp2;refine bodyPost_ret (results_cell_row (p:=2) (ty:=23) rfl _ _ w.heap.size 23 _ (0,0) _ rfl (lq I.out _ _ _) underlying23 rfl JX) rfl ⟨rfl,?_⟩;exact km v.out (nm _) _ _ _
theorem ud (q:zL) (i k:Nat) (h:(Um.zs.getD i 0).toNat<=k):Om.at_ q Um.zs i<256 ^ k:=by unfold Om.at_;have h1:=Om.nr ((q.drop (Om.off Um.zs i)).take (Um.zs.getD i 0).toNat);have a:256 ^ ((q.drop (Om.off Um.zs i)).take (Um.zs.getD i 0).toNat).length<=256 ^ k:=VE (by omega) (by rw [E4];exact A6 (VF _ _) h);omega
def za (s:zL) (w:World) (e:Ending) (w':World):Prop:= ((Um.av s= 0/\e= nf (Uv (Um.bN s) (Um.bO s) (Um.aH s)))\/(Um.av s≠0/\e= gG (Um.av s)))/\zB w w'
theorem ou {s:zL} {w:World} {x:Int} (h:Um.av s= x) (a:x≠0) (H:zF 152 #[.string (Om.B s)] w λe w'=>e= gG x/\zB w w'): zF 152 #[.string (Om.B s)] w (za s w):= H.mono λe w' ⟨he,hb⟩=>⟨.inr ⟨by rw [h];exact a,by rw [h];exact he⟩,hb⟩
theorem zc (s:zL) (w:World):zF 152 #[.string (Om.B s)] w (za s w):=by
 by_cases h:s.length= 64;· cases hg:Cm.aN s with
  | false=>exact ou (Um.gy s 31 (Sc.pK h hg) (by decide)).1 (by decide) (JZ s w h hg)
  | true =>
  by_cases d:(s.take 60).take 4= Um.ts;·
   have i:((s.take 60).drop 4).length= 56:=by rw [IV,E4];omega
   obtain ⟨q,c⟩:=eX1 ((s.take 60).drop 4);rw [<-c]at i;have G:Hid (∀a cap w1,Row w1 w1.heap.size a 3 (bz Um.zs)->zF 201 #[.string (Om.B q), .slice a 3 cap] w1 (kx (q.drop 12) (Om.at_ q Um.zs 0) (Om.at_ q Um.zs 1) (Om.at_ q Um.zs 2) w1)):=λa cap w1 hr=>JW q (by omega) a cap w1 hr;have g:=hT (λw1=>nD (q.drop 12) w1 (by rw [IV];omega));have l:Sc.az Um.zs s 0= Om.at_ q Um.zs 0:=by rw [c];rfl
   have k:Sc.az Um.zs s 1= Om.at_ q Um.zs 1:=by rw [c];rfl
   have j:Sc.az Um.zs s 2= Om.at_ q Um.zs 2:=by rw [c];rfl
   cases hz:dB (q.drop 12) with
    | false => rw [hz]at g;exact ou (Um.gy s 32 (Sc.pM h hg d (by rw [<-c];exact hz)) (by decide)).1 (by decide) (J3 s q _ _ _ _ w h hg d c G g)
    | true => rw [hz]at g;have f:Sc.cx Um.ts Um.zs s= 0:=Sc.ml h hg d (by rw [<-c];exact hz);have R:=hT (λw1=>nT (Om.at_ q Um.zs 0) (Om.at_ q Um.zs 1) (Om.at_ q Um.zs 2) w1);have o:Om.at_ q Um.zs 0<4294967296:=ud q 0 4 (by decide);have n:Om.at_ q Um.zs 1<4294967296:=ud q 1 4 (by decide);have m:Om.at_ q Um.zs 2<4294967296:=ud q 2 4 (by decide);cases hok:Um.dr (Om.at_ q Um.zs 0) (Om.at_ q Um.zs 1) (Om.at_ q Um.zs 2) with
    | false => have b:Um.aj (Om.at_ q Um.zs 0) (Om.at_ q Um.zs 1) (Om.at_ q Um.zs 2)= false:=hok;rw [b]at R;exact ou (Um.kX s f (by rw [l,k,j];exact hok)).1 (by decide) (J4 s q _ _ _ _ w h hg d c o n m G g R)
    | true => have b:Um.aj (Om.at_ q Um.zs 0) (Om.at_ q Um.zs 1) (Om.at_ q Um.zs 2):=hok;rw [b]at R;obtain ⟨d0,d1,d2,d3⟩:=Um.gQ s f (by rw [l,k,j];exact hok);refine (J5 s q _ _ _ _ w h hg d c o n m G g R).mono ?_;rintro e w' ⟨p,r⟩;exact ⟨.inl ⟨d0,by rw [p,d1,d2,d3,l,k,j]⟩,r⟩
  ·exact ou (Um.gy s 22 (Sc.pL h hg d) (by decide)).1 (by decide) (J0 s w h hg d)
 ·exact ou (Um.gy s 21 (Sc.pJ h) (by decide)).1 (by decide) (JY s w h)
end
section
open Go.RowKit
theorem jM {fn:Func} {p u:Tmp} (h:fn.results= #[.cell p 188, .tmp u]) (tmps:Array Value) (w:World) (g:Nat) (x0 x1 x2 x3 v:Value) (hp:tmps.getD p undef= zP g) (hu:tmps.getD u undef= v) (a:w.heap[g]?= some (hV #[x0,x1,x2,x3] 188 (0,0))): (results fn tmps).run prog w= .ok (CE #[.agg #[x0,x1,x2,x3],v]) w:=by
 have hi:(prog.info? 188).map (·.size)= some (#[x0,x1,x2,x3]:Array Value).size:=by kernel_rfl
 rw [results_cell_tmp h,hp,hu];simp [asAddr,run_loadVar_row w g 188 188 #[x0,x1,x2,x3] (0,0) _ a underlying188 rfl hi,Ty]
def kz (r:zL) (n0 n1 n2 n3:Nat) (w:World) (e:Ending) (w':World):Prop:= ∃ nb : Nat, e = nf (CE #[.slice (some ⟨nb, 0, none⟩) 4 4, .string (Om.B r),zI 0]) /\ nb < w'.heap.size /\ w'.cell? (zD nb 0)= some (.int wb n0)/\w'.cell? (zD nb 1)= some (.int wb n1)/\w'.cell? (zD nb 2)= some (.int wb n2)/\w'.cell? (zD nb 3)= some (.int wb n3)/\zB w w'
theorem zi (q:zL) (h:11<=q.length) (a:Option Addr) (cap:Nat) (w:World) (f:Row w w.heap.size a 4 (bz Hm.zs)): zF 201 #[.string (Om.B q), .slice a 4 cap] w (kz (q.drop 11) (Om.at_ q Hm.zs 0) (Om.at_ q Hm.zs 1) (Om.at_ q Hm.zs 2) (Om.at_ q Hm.zs 3) w):=by refine (qA q Hm.zs w.heap.size a 4 cap w rfl (by omega) (nm _) f (by decide) (by rw [show Om.off Hm.zs 4= 11 by decide];exact h)).mono ?_;rintro e w' ⟨d,c,_,i,b,g⟩;rw [show Om.off Hm.zs 4= 11 by decide]at c;exact ⟨d,c,i,b 0 (by omega),b 1 (by omega),b 2 (by omega),b 3 (by omega),g⟩
theorem uj (w:World):zF 281 #[.bool true] w (zQ (.int wb 1) w):=tC true w
theorem Kf (q:zL) (w:World) (h:11<=q.length) (o:q.length<=60) (m:dB (q.drop 11)= false): zF 273 #[.string (Om.B q)] w λe w'=>e= zV (Hv 0 0 0 false) (.bool false)/\zB w w':=by have r:=hT nX;have G:=hT (zi q h);have Z:=hT (λw1=>nD (q.drop 11) w1 (by rw [IV];omega));rw [m]at Z;unfold kz at G;have l:Hid (zB w (w.alloc (hV #[zU 0,zI 0,zI 0, .bool false] 188))):=zA;have a:=heap_alloc_new w (hV #[zU 0,zI 0,zI 0, .bool false] 188);obtain ⟨E,g⟩:=eX2 (w.alloc (hV #[zU 0,zI 0,zI 0, .bool false] 188));rw [g]at l a;have t:=hT a;have LT:=hT (DN.1 a).1;unfold Hv;clear h o m a;go_enter func273,ntmps273;go_wp2_with fail;clear g;refine (r.out _).mono ?_;rintro e w1 ⟨ks,rfl,c,f⟩;have i:=hT c;have v:=hT f;clear c f;go_wp2_with fail;refine (G.out _ _ _ i.out).mono ?_;rintro e w2 ⟨D,rfl,_,_,_,_,_,d⟩;have n:=zT v d;clear d;go_wp2_with fail;refine zh (Z.out _) ?_;have b:=(n.out.block _ LT.out).trans t.out;have s:=hT b;have k:=hT (l.out.trans (n.out.mono l.out.size));have C:w2.cell? (zz w 0)= some (zU 0):=zW b;have A:w2.cell? (zz w 1)= some (zI 0):=zW b;have z:w2.cell? (zz w 2)= some (zI 0):=zW b;have y:w2.cell? (zz w 3)= some (.bool false):=zW b;have x:=λj=>frozen_of_row (j:=j) _ _ _ _ b;clear b;go_wp2;refine bodyPost_ret (jM (p:=2) (u:=3) rfl _ _ w.heap.size _ _ _ _ _ rfl rfl (dc s.out _ _ _ _)) rfl ⟨rfl,?_⟩;exact dd k.out (nm _) _ _ _ _
def uk (aN:Bool) (g:Nat) (c p:Int) (b:Bool):Value:=if aN= true then Hv g c p b else Hv 0 0 0 false
theorem qD (g:Nat) (c p:Int) (b:Bool):uk false g c p b= Hv 0 0 0 false:=rfl
theorem zj (g:Nat) (c p:Int) (b:Bool):uk true g c p b= Hv g c p b:=rfl
theorem Kg (ok:Bool) (n:Nat): (ok= false/\(ok && decide (n<=1))= false)\/(ok= true/\((n:Int) != ((Hm.bit ((n:Int) == 1):Nat):Int))= true/\(ok && decide (n<=1))= false)\/(ok= true/\((n:Int) != ((Hm.bit ((n:Int) == 1):Nat):Int))= false/\(ok && decide (n<=1))= true):=by cases ok with
 | false=>exact .inl ⟨rfl,rfl⟩
 | true =>
 refine .inr ?_;by_cases h:n<=1;·
  refine .inr ⟨rfl,?_,by simpa using h⟩;by_cases h1:n= 1;· subst h1;rfl
  ·obtain rfl:n= 0:=by omega
   rfl
 ·refine .inl ⟨rfl,?_,by simpa using h⟩;have:((n:Int) == 1)= false:=by rw [beq_eq_false_iff_ne];omega
  rw [this];show ((n:Int) != 0)= true;rw [bne_iff_ne];omega
theorem Kh (q r:zL) (n0 n1 n2 n3 m3:Nat) (x3:Bool) (w:World) (h0:n0<4294967296) (h1:n1<65536) (Y:n2<4294967296) (X:n3<256) (J:((n3:Int) == 1)= x3) (G:Hid (∀a cap w1,Row w1 w1.heap.size a 4 (bz Hm.zs)->zF 201 #[.string (Om.B q), .slice a 4 cap] w1 (kz r n0 n1 n2 n3 w1))) (Z:Hid (∀w1,zF 202 #[.string (Om.B r)] w1 λe w'=>e= nf (.bool true)/\w1= w')) (R:Hid (∀w1,zF 279 #[Hv n0 n1 n2 x3] w1 λe w'=>e= nf (.bool false)/\zB w1 w')) (M:Hid (∀w1,zF 281 #[.bool x3] w1 λe w'=>e= nf (.int wb m3)/\w1= w')): zF 273 #[.string (Om.B q)] w λe w'=>e= zV (Hv 0 0 0 false) (.bool false)/\zB w w':=by have L:=hT nX;unfold kz at G;have H:Hid (zB w (w.alloc (hV #[zU 0,zI 0,zI 0, .bool false] 188))):=zA;have f:=heap_alloc_new w (hV #[zU 0,zI 0,zI 0, .bool false] 188);obtain ⟨W0,t⟩:=eX2 (w.alloc (hV #[zU 0,zI 0,zI 0, .bool false] 188));rw [t]at H f;have O:=hT f;have LT:=hT (DN.1 f).1;have e0:IntKind.u32.wrap (n0:Int)= (n0:Int):=Vs _ (by omega);have e1:lg.wrap (n1:Int)= (n1:Int):=rr _ (by omega);have e2:lg.wrap (n2:Int)= (n2:Int):=rr _ (by omega);unfold Hv at R⊢;clear f;go_enter func273,ntmps273;go_wp2_with fail;clear t;refine (L.out _).mono ?_;rintro e w1 ⟨ks,rfl,m,s⟩;have E:=hT m;have P:=hT s;clear m s;go_wp2_with fail;refine (G.out _ _ _ E.out).mono ?_;rintro e w2 ⟨v,rfl,z,c0,c1,c2,c3,o⟩;have I:=zT P o;clear o;go_wp2_with fail;refine zh (Z.out _) ?_;go_wp2;go_region_held3 (λw'=>w'.cell? (zD v 0)= some (.int wb n0)/\w'.cell? (zD v 1)= some (.int wb n1)/\w'.cell? (zD v 2)= some (.int wb n2)/\w'.cell? (zD v 3)= some (.int wb n3)) (first|go_keep|(refine ⟨?_,?_,?_,?_⟩<;>assumption)) (first|(go_at_call 281;refine zh (uj _) ?_));all_goals
 obtain ⟨D,g⟩:=eX2 ((w2.alloc (hV #[zU n0,zI n1,zI n2, .bool x3] 188)).drew);have n:zB w2 D:=by rw [<-g];exact zA.drew
 have A:Bx D w2.heap.size n0 n1 n2 x3:=by rw [<-g];exact qe (heap_alloc_new w2 _)
 rw [g];have x:=zT I n;clear g c0 c1 c2 c3 z n I;obtain ⟨c,C,b1,b2,b3⟩:=A;have y:=ti LT.out x.out.size;go_wp2_with fail;refine wp_region_held_drew (S:=(λw'=>w'.cell? (zz w2 0)= some (zU n0)/\w'.cell? (zz w2 1)= some (zI n1)/\w'.cell? (zz w2 2)= some (zI n2)/\w'.cell? (zz w2 3)= some (.bool x3))) (by kernel_rfl) ⟨C,b1,b2,b3⟩ (λhHeld=>?_);refine Skip.take (i:=0) 41 (.agg #[zU n0,zI n1,zI n2, .bool x3]) rfl rfl (by kernel_rfl) (by kernel_rfl) (by kernel_rfl) (λ_ _ _ h=>h) (by rfl) ?_ (by assumption) ?_;· intro w' b;(try dsimp only at b);go_simp
 try simp only [OW,Tz,Tn,To]
 refine wpAnyH_ready (rs:= [1]) (by kernel_rfl) (by simp) ?_;refine AllReadyH.cons rfl (λK hK=>?_) AllReadyH.nil;go_simp;go_at_call 279;refine zg (R.out _) λw4 hb=>?_;have l:Hid (zB D w4):=zR.drew.trans hb;clear hb;refine hK.out _ _ ⟨(l.out.cell (p:=(zz w2 0)) c).trans C,(l.out.cell (p:=(zz w2 1)) c).trans b1,(l.out.cell (p:=(zz w2 2)) c).trans b2,(l.out.cell (p:=(zz w2 3)) c).trans b3⟩ (λhHeld=>?_);clear hK;try simp only [OW,Tz,Tn,To]
 refine Skip.take (i:=2) 43 (.bool true) rfl rfl (by kernel_rfl) (by kernel_rfl) (by kernel_rfl) (λ_ _ _ h=>h) (by rfl) ?_ (by assumption) ?_;· intro w' b;(try dsimp only at b);go_simp
 try simp only [OW,Tz,Tn,To]
 refine Skip.take (i:=3) 44 (.bool true) rfl rfl (by kernel_rfl) (by kernel_rfl) (by kernel_rfl) (λ_ _ _ h=>h) (by rfl) ?_ (by assumption) ?_;· intro w' b;(try dsimp only at b);go_simp
 try simp only [OW,Tz,Tn,To]
 refine Skip.over (i:=4) (d:=45) rfl rfl rfl (by kernel_rfl) (by kernel_rfl) (by kernel_rfl) (λ_ _ _ h=>h) (by rfl) (by assumption) ?_;refine Skip.over (i:=5) (d:=46) rfl rfl rfl (by kernel_rfl) (by kernel_rfl) (by kernel_rfl) (λ_ _ _ h=>h) (by rfl) (by assumption) ?_;refine Skip.over (i:=6) (d:=47) rfl rfl rfl (by kernel_rfl) (by kernel_rfl) (by kernel_rfl) (λ_ _ _ h=>h) (by rfl) (by assumption) ?_;refine Skip.over (i:=7) (d:=48) rfl rfl rfl (by kernel_rfl) (by kernel_rfl) (by kernel_rfl) (λ_ _ _ h=>h) (by rfl) (by assumption) ?_;refine Skip.over (i:=8) (d:=49) rfl rfl rfl (by kernel_rfl) (by kernel_rfl) (by kernel_rfl) (λ_ _ _ h=>h) (by rfl) (by assumption) ?_;refine Skip.over (i:=9) (d:=50) rfl rfl rfl (by kernel_rfl) (by kernel_rfl) (by kernel_rfl) (λ_ _ _ h=>h) (by rfl) (by assumption) ?_;refine Skip.over (i:=10) (d:=51) rfl rfl rfl (by kernel_rfl) (by kernel_rfl) (by kernel_rfl) (λ_ _ _ h=>h) (by rfl) (by assumption) ?_;refine Skip.take (i:=11) 52 (.bool true) rfl rfl (by kernel_rfl) (by kernel_rfl) (by kernel_rfl) (λ_ _ _ h=>h) (by rfl) ?_ (by assumption) ?_;· intro w' b;(try dsimp only at b);go_simp
 try simp only [OW,Tz,Tn,To]
 refine wpAnyH_done (by kernel_rfl) ?_ _;have k:=(l.out.block _ y).trans ((x.out.block _ LT.out).trans O.out);have N:=hT k;have F:=hT (H.out.trans ((x.out.trans (l.out.mono x.out.size)).mono H.out.size));have W:w4.cell? (zz w 0)= some (zU 0):=zW k;have V:w4.cell? (zz w 1)= some (zI 0):=zW k;have U:w4.cell? (zz w 2)= some (zI 0):=zW k;have T:w4.cell? (zz w 3)= some (.bool false):=zW k;have Q:=λj=>frozen_of_row (j:=j) _ _ _ _ k;clear k C b1 b2 b3;go_wp2;refine bodyPost_ret (jM (p:=2) (u:=3) rfl _ _ w.heap.size _ _ _ _ _ rfl rfl (dc N.out _ _ _ _)) rfl ⟨rfl,?_⟩;exact dd F.out (nm _) _ _ _ _
theorem Ki (q r:zL) (n0 n1 n2 n3 m3:Nat) (x3:Bool) (w:World) (U:n0<4294967296) (h1:n1<65536) (T:n2<4294967296) (S:n3<256) (F:((n3:Int) == 1)= x3) (hm:((n3:Int) != (m3:Int))) (G:Hid (∀a cap w1,Row w1 w1.heap.size a 4 (bz Hm.zs)->zF 201 #[.string (Om.B q), .slice a 4 cap] w1 (kz r n0 n1 n2 n3 w1))) (Z:Hid (∀w1,zF 202 #[.string (Om.B r)] w1 λe w'=>e= nf (.bool true)/\w1= w')) (R:Hid (∀w1,zF 279 #[Hv n0 n1 n2 x3] w1 λe w'=>e= nf (.bool true)/\zB w1 w')) (M:Hid (∀w1,zF 281 #[.bool x3] w1 λe w'=>e= nf (.int wb m3)/\w1= w')): zF 273 #[.string (Om.B q)] w λe w'=>e= zV (Hv 0 0 0 false) (.bool false)/\zB w w':=by have H:=hT nX;unfold kz at G;have C:Hid (zB w (w.alloc (hV #[zU 0,zI 0,zI 0, .bool false] 188))):=zA;have c:=heap_alloc_new w (hV #[zU 0,zI 0,zI 0, .bool false] 188);obtain ⟨Y,s⟩:=eX2 (w.alloc (hV #[zU 0,zI 0,zI 0, .bool false] 188));rw [s]at C c;have J:=hT c;have LT:=hT (DN.1 c).1;have X:IntKind.u32.wrap (n0:Int)= (n0:Int):=Vs _ (by omega);have W:lg.wrap (n1:Int)= (n1:Int):=rr _ (by omega);have V:lg.wrap (n2:Int)= (n2:Int):=rr _ (by omega);unfold Hv at R⊢;clear c;go_enter func273,ntmps273;go_wp2_with fail;clear s;refine (H.out _).mono ?_;rintro e w1 ⟨ks,rfl,l,o⟩;have z:=hT l;have K:=hT o;clear l o;go_wp2_with fail;refine (G.out _ _ _ z.out).mono ?_;rintro e w2 ⟨g,rfl,h,c0,c1,c2,c3,n⟩;have E:=zT K n;clear n;go_wp2_with fail;refine zh (Z.out _) ?_;go_wp2;go_region_held3 (λw'=>w'.cell? (zD g 0)= some (.int wb n0)/\w'.cell? (zD g 1)= some (.int wb n1)/\w'.cell? (zD g 2)= some (.int wb n2)/\w'.cell? (zD g 3)= some (.int wb n3)) (first|go_keep|(refine ⟨?_,?_,?_,?_⟩<;>assumption)) (first|(go_at_call 281;refine zh (uj _) ?_));all_goals
 obtain ⟨y,f⟩:=eX2 ((w2.alloc (hV #[zU n0,zI n1,zI n2, .bool x3] 188)).drew);have d:zB w2 y:=by rw [<-f];exact zA.drew
 have x:Bx y w2.heap.size n0 n1 n2 x3:=by rw [<-f];exact qe (heap_alloc_new w2 _)
 rw [f];have d3:=(d.cell (p:=(zD g 3)) h).trans c3;have m:=ti h d.size;have t:=zT E d;clear f c0 c1 c2 c3 h d E;obtain ⟨b,D,b1,b2,b3⟩:=x;have v:=ti LT.out t.out.size;go_wp2_with fail;first|(go_region_held3 (λw'=>w'.cell? (zz w2 0)= some (zU n0)/\w'.cell? (zz w2 1)= some (zI n1)/\w'.cell? (zz w2 2)= some (zI n2)/\w'.cell? (zz w2 3)= some (.bool x3)/\w'.cell? (zD g 3)= some (.int wb n3)) (first|go_keep|(refine ⟨?_,?_,?_,?_,?_⟩<;>assumption)|(exact ⟨(k.out.cell (p:=(zz w2 0)) b).trans D,(k.out.cell (p:=(zz w2 1)) b).trans b1,(k.out.cell (p:=(zz w2 2)) b).trans b2,(k.out.cell (p:=(zz w2 3)) b).trans b3,(k.out.cell (p:=(zD g 3)) m).trans d3⟩)) (first|(go_at_call 279;refine zg (R.out _) λw4 hb=>?_;have k:Hid (zB y w4):=zR.drew.trans hb;clear hb)|(go_at_call 281;refine zh (M.out _) ?_)))|fail
 have i:=(k.out.block _ v).trans ((t.out.block _ LT.out).trans J.out);have I:=hT i;have A:=hT (C.out.trans ((t.out.trans (k.out.mono t.out.size)).mono C.out.size));have Q:w4.cell? (zz w 0)= some (zU 0):=zW i;have P:w4.cell? (zz w 1)= some (zI 0):=zW i;have O:w4.cell? (zz w 2)= some (zI 0):=zW i;have N:w4.cell? (zz w 3)= some (.bool false):=zW i;have L:=λj=>frozen_of_row (j:=j) _ _ _ _ i;clear i D b1 b2 b3 d3;go_wp2;refine bodyPost_ret (jM (p:=2) (u:=3) rfl _ _ w.heap.size _ _ _ _ _ rfl rfl (dc I.out _ _ _ _)) rfl ⟨rfl,?_⟩;exact dd A.out (nm _) _ _ _ _
theorem Kj (q r:zL) (n0 n1 n2 n3 m3:Nat) (x3:Bool) (w:World) (U:n0<4294967296) (h1:n1<65536) (T:n2<4294967296) (S:n3<256) (F:((n3:Int) == 1)= x3) (hm:((n3:Int) != (m3:Int))= false) (G:Hid (∀a cap w1,Row w1 w1.heap.size a 4 (bz Hm.zs)->zF 201 #[.string (Om.B q), .slice a 4 cap] w1 (kz r n0 n1 n2 n3 w1))) (Z:Hid (∀w1,zF 202 #[.string (Om.B r)] w1 λe w'=>e= nf (.bool true)/\w1= w')) (R:Hid (∀w1,zF 279 #[Hv n0 n1 n2 x3] w1 λe w'=>e= nf (.bool true)/\zB w1 w')) (M:Hid (∀w1,zF 281 #[.bool x3] w1 λe w'=>e= nf (.int wb m3)/\w1= w')): zF 273 #[.string (Om.B q)] w λe w'=>e= zV (Hv n0 n1 n2 x3) (.bool true)/\zB w w':=by have H:=hT nX;unfold kz at G;have C:Hid (zB w (w.alloc (hV #[zU 0,zI 0,zI 0, .bool false] 188))):=zA;have c:=heap_alloc_new w (hV #[zU 0,zI 0,zI 0, .bool false] 188);obtain ⟨Y,s⟩:=eX2 (w.alloc (hV #[zU 0,zI 0,zI 0, .bool false] 188));rw [s]at C c;have J:=hT c;have LT:=hT (DN.1 c).1;have X:IntKind.u32.wrap (n0:Int)= (n0:Int):=Vs _ (by omega);have W:lg.wrap (n1:Int)= (n1:Int):=rr _ (by omega);have V:lg.wrap (n2:Int)= (n2:Int):=rr _ (by omega);unfold Hv at R⊢;clear c;go_enter func273,ntmps273;go_wp2_with fail;clear s;refine (H.out _).mono ?_;rintro e w1 ⟨ks,rfl,l,o⟩;have z:=hT l;have K:=hT o;clear l o;go_wp2_with fail;refine (G.out _ _ _ z.out).mono ?_;rintro e w2 ⟨g,rfl,h,c0,c1,c2,c3,n⟩;have E:=zT K n;clear n;go_wp2_with fail;refine zh (Z.out _) ?_;go_wp2;go_region_held3 (λw'=>w'.cell? (zD g 0)= some (.int wb n0)/\w'.cell? (zD g 1)= some (.int wb n1)/\w'.cell? (zD g 2)= some (.int wb n2)/\w'.cell? (zD g 3)= some (.int wb n3)) (first|go_keep|(refine ⟨?_,?_,?_,?_⟩<;>assumption)) (first|(go_at_call 281;refine zh (uj _) ?_));all_goals
 obtain ⟨y,f⟩:=eX2 ((w2.alloc (hV #[zU n0,zI n1,zI n2, .bool x3] 188)).drew);have d:zB w2 y:=by rw [<-f];exact zA.drew
 have x:Bx y w2.heap.size n0 n1 n2 x3:=by rw [<-f];exact qe (heap_alloc_new w2 _)
 rw [f];have d3:=(d.cell (p:=(zD g 3)) h).trans c3;have m:=ti h d.size;have t:=zT E d;clear f c0 c1 c2 c3 h d E;obtain ⟨b,D,b1,b2,b3⟩:=x;have v:=ti LT.out t.out.size;go_wp2_with fail;first|(go_region_held3 (λw'=>w'.cell? (zz w2 0)= some (zU n0)/\w'.cell? (zz w2 1)= some (zI n1)/\w'.cell? (zz w2 2)= some (zI n2)/\w'.cell? (zz w2 3)= some (.bool x3)/\w'.cell? (zD g 3)= some (.int wb n3)) (first|go_keep|(refine ⟨?_,?_,?_,?_,?_⟩<;>assumption)|(exact ⟨(k.out.cell (p:=(zz w2 0)) b).trans D,(k.out.cell (p:=(zz w2 1)) b).trans b1,(k.out.cell (p:=(zz w2 2)) b).trans b2,(k.out.cell (p:=(zz w2 3)) b).trans b3,(k.out.cell (p:=(zD g 3)) m).trans d3⟩)) (first|(go_at_call 279;refine zg (R.out _) λw4 hb=>?_;have k:Hid (zB y w4):=zR.drew.trans hb;clear hb)|(go_at_call 281;refine zh (M.out _) ?_)))|fail
 have i:=(k.out.block _ v).trans ((t.out.block _ LT.out).trans J.out);have I:=hT i;have A:=hT (C.out.trans ((t.out.trans (k.out.mono t.out.size)).mono C.out.size));have Q:w4.cell? (zz w 0)= some (zU 0):=zW i;have P:w4.cell? (zz w 1)= some (zI 0):=zW i;have O:w4.cell? (zz w 2)= some (zI 0):=zW i;have N:w4.cell? (zz w 3)= some (.bool false):=zW i;have L:=λj=>frozen_of_row (j:=j) _ _ _ _ i;clear i D b1 b2 b3 d3;go_wp2;refine bodyPost_ret (jM (p:=2) (u:=3) rfl _ _ w.heap.size _ _ _ _ _ rfl rfl (dc I.out _ _ _ _)) rfl ⟨rfl,?_⟩;exact dd A.out (nm _) _ _ _ _
def ji (q:zL):Bool:=dB (q.drop 11) && Hm.dr (Om.at_ q Hm.zs 0) (Om.at_ q Hm.zs 1) (Om.at_ q Hm.zs 2) (Om.at_ q Hm.zs 3)
theorem qE (q:zL) (i k:Nat) (h:(Hm.zs.getD i 0).toNat<=k):Om.at_ q Hm.zs i<256 ^ k:=by unfold Om.at_;have h1:=Om.nr ((q.drop (Om.off Hm.zs i)).take (Hm.zs.getD i 0).toNat);have a:256 ^ ((q.drop (Om.off Hm.zs i)).take (Hm.zs.getD i 0).toNat).length<=256 ^ k:=VE (by omega) (by rw [E4];exact A6 (VF _ _) h);omega
theorem Kk (n:Nat):((n:Int) == 1)= (n == 1):=by
 by_cases h:n= 1;· subst h;rfl
 ·rw [beq_eq_false_iff_ne.2 h,beq_eq_false_iff_ne];omega
theorem zk (q:zL) (w:World) (h:11<=q.length) (l:q.length<=60): zF 273 #[.string (Om.B q)] w λe w'=>e= zV (uk (ji q) (Om.at_ q Hm.zs 0) (Om.at_ q Hm.zs 1) (Om.at_ q Hm.zs 2) (Om.at_ q Hm.zs 3 == 1)) (.bool (ji q))/\zB w w':=by unfold ji;cases hz:dB (q.drop 11) with
 | false => rw [T5,qD];exact Kf q w h l hz
 | true =>
 rw [T4];have k:Om.at_ q Hm.zs 0<4294967296:=qE q 0 4 (by decide);have h1:Om.at_ q Hm.zs 1<65536:=qE q 1 2 (by decide);have j:Om.at_ q Hm.zs 2<4294967296:=qE q 2 4 (by decide);have i:Om.at_ q Hm.zs 3<256:=qE q 3 1 (by decide);have G:=hT (zi q h);have Z:=hT (λw1=>nD (q.drop 11) w1 (by rw [IV];omega));rw [hz]at Z;rw [<-Kk];obtain ⟨d,c⟩:=eX2 (((Om.at_ q Hm.zs 3:Nat):Int) == 1);have R:=hT (λw1=>tB (Om.at_ q Hm.zs 0) (Om.at_ q Hm.zs 1) (Om.at_ q Hm.zs 2) d w1);have M:=hT (λw1=>tC d w1);have b:=Kg (Hm.cN (Om.at_ q Hm.zs 0) (Om.at_ q Hm.zs 1) (Om.at_ q Hm.zs 2)) (Om.at_ q Hm.zs 3);rw [c]at b⊢;have g:Hm.dr (Om.at_ q Hm.zs 0) (Om.at_ q Hm.zs 1) (Om.at_ q Hm.zs 2) (Om.at_ q Hm.zs 3)= (Hm.cN (Om.at_ q Hm.zs 0) (Om.at_ q Hm.zs 1) (Om.at_ q Hm.zs 2) && decide (Om.at_ q Hm.zs 3<=1)):=rfl;rcases b with ⟨a,f⟩|⟨a,hm,f⟩|⟨a,hm,f⟩;· rw [g,f,qD];rw [a]at R;exact Kh q _ _ _ _ _ _ d w k h1 j i c G Z R M
 ·rw [g,f,qD];rw [a]at R;exact Ki q _ _ _ _ _ _ d w k h1 j i c hm G Z R M
 ·rw [g,f,zj];rw [a]at R;exact Kj q _ _ _ _ _ _ d w k h1 j i c hm G Z R M
end
section
open Go.RowKit
def um (s:zL):Value:=Hv (Hm.aH s) (Hm.fT s) (Hm.fU s) (Hm.d_ s)
def kA (s:zL) (w:World) (e:Ending) (w':World):Prop:=e= zV (um s) (zI (Hm.av s))/\zB w w'
theorem qF (s:zL) (w w':World) (x:Int) (h:Hm.av s= x/\Hm.aH s= 0/\Hm.fT s= 0/\Hm.fU s= 0/\Hm.d_ s= false) (a:zB w w'):kA s w (zV (.agg #[zU 0,zI 0,zI 0, .bool false]) (zI x)) w':= ⟨by unfold um;rw [h.1,h.2.1,h.2.2.1,h.2.2.2.1,h.2.2.2.2];rfl,a⟩
theorem Kl (s:zL) (w w':World) (g c p:Nat) (b:Bool) (h:Hm.av s= 0/\Hm.aH s= g/\Hm.fT s= c/\Hm.fU s= p/\Hm.d_ s= b) (a:zB w w'):kA s w (zV (.agg #[zU g,zI c,zI p, .bool b]) (zI 0)) w':= ⟨by unfold um;rw [h.1,h.2.1,h.2.2.1,h.2.2.2.1,h.2.2.2.2];rfl,a⟩
theorem rd_false (s:zL) (h:s.length= 64) (c:Cm.aN s) (b:(s.take 60).take 4= Hm.ts) (a:ji ((s.take 60).drop 4)= false):Hm.av s= 32/\Hm.aH s= 0/\Hm.fT s= 0/\Hm.fU s= 0/\Hm.d_ s= false:=by unfold ji at a;cases hz:dB (((s.take 60).drop 4).drop 11) with
 | false=>exact Hm.gy s 32 (Sc.pM h c b hz) (by decide)
 | true => rw [hz,T4]at a;exact Hm.kX s (Sc.ml h c b hz) a
theorem rd_true (s:zL) (h:s.length= 64) (c:Cm.aN s) (b:(s.take 60).take 4= Hm.ts) (a:ji ((s.take 60).drop 4)): Hm.av s= 0/\Hm.aH s= Om.at_ ((s.take 60).drop 4) Hm.zs 0/\Hm.fT s= Om.at_ ((s.take 60).drop 4) Hm.zs 1/\Hm.fU s= Om.at_ ((s.take 60).drop 4) Hm.zs 2/\Hm.d_ s= (Om.at_ ((s.take 60).drop 4) Hm.zs 3 == 1):=by unfold ji at a;rw [N6]at a;exact Hm.gQ s (Sc.ml h c b a.1) a.2
theorem oz (w W0:World) (h:w.alloc (hV #[zU 0,zI 0,zI 0, .bool false] 188)= W0): zB w W0/\W0.heap[w.heap.size]?= some (hV #[zU 0,zI 0,zI 0, .bool false] 188 (0,0))/\w.heap.size<W0.heap.size:=by subst h;have h1:=heap_alloc_new w (hV #[zU 0,zI 0,zI 0, .bool false] 188);exact ⟨zA,h1,(DN.1 h1).1⟩
theorem kB {W:World} {g:Nat} {t:TypeId} (h:W.heap[g]?= some (hV #[zU 0,zI 0,zI 0, .bool false] t (0,0))): W.cell? (zD g 0)= some (zU 0)/\W.cell? (zD g 1)= some (zI 0)/\W.cell? (zD g 2)= some (zI 0)/\W.cell? (zD g 3)= some (.bool false)/\∀j,W.frozen? (zD g j)= false:= ⟨zW h,zW h,zW h,zW h,λj=>frozen_of_row (j:=j) _ _ _ _ h⟩
theorem Km (s:zL) (w:World) (h:s.length≠64):zF 242 #[.string (Om.B s)] w (kA s w):=by
 have d:(((Om.B s).size:Int) != 64):=by rw [bne_iff_ne,Om.aG];omega
 have f:=hT (Hm.gy s 21 (Sc.pJ h) (by decide));obtain ⟨e,a⟩:=eX2 (w.alloc (hV #[zU 0,zI 0,zI 0, .bool false] 188));obtain ⟨c,b,lt⟩:=oz w e a;have g:=hT c;have i:=hT b;obtain ⟨n,m,l,k,j⟩:=kB b;clear h c b lt;go_enter func242,ntmps242;go_wp2;refine bodyPost_ret (jM (p:=2) (u:=3) rfl _ _ w.heap.size _ _ _ _ _ rfl rfl (dc i.out _ _ _ _)) rfl ?_;exact qF s w _ 21 f.out (dd g.out (nm _) _ _ _ _)
theorem Kn (s:zL) (w:World) (h:s.length= 64) (b:Cm.aN s= false):zF 242 #[.string (Om.B s)] w (kA s w):=by
 have j:(((Om.B s).size:Int) != 64)= false:=by rw [bne_eq_false_iff_eq,Om.aG];omega
 have m:=hT (Hm.gy s 31 (Sc.pK h b) (by decide));have c:=λw1=>fS s w1 (by omega) (by omega);rw [b]at c;have C:=hT c;obtain ⟨l,a⟩:=eX2 (w.alloc (hV #[zU 0,zI 0,zI 0, .bool false] 188));obtain ⟨g,i,lt⟩:=oz w l a;have n:=hT g;have o:=hT i;have LT:=hT lt;clear h g i lt b c;go_enter func242,ntmps242;go_wp2_with fail;clear a;refine (C.out _).mono ?_;rintro e w1 ⟨k,d⟩;obtain rfl:e= zV (.string (Om.B [])) (zI 31):=k;have h1:=(d.block _ LT.out).trans o.out;have H1:=hT h1;have f:=zT n d;obtain ⟨x,v,t,r,q⟩:=kB h1;clear d h1;go_wp2;refine bodyPost_ret (jM (p:=2) (u:=3) rfl _ _ w.heap.size _ _ _ _ _ rfl rfl (dc H1.out _ _ _ _)) rfl ?_;exact qF s w _ 31 m.out (dd f.out (nm _) _ _ _ _)
theorem Ko (s:zL) (w:World) (h:s.length= 64) (i:Cm.aN s) (g:(s.take 60).take 4≠Hm.ts):zF 242 #[.string (Om.B s)] w (kA s w):=by
 have o:(((Om.B s).size:Int) != 64)= false:=by rw [bne_eq_false_iff_eq,Om.aG];omega
 have j:=λw1=>fS s w1 (by omega) (by omega);have d:(s.take 60).length= 60:=by rw [E4];omega
 rw [i,h]at j;have r:=hT (Hm.gy s 22 (Sc.pL h i g) (by decide));obtain ⟨b,k⟩:=eX1 (s.take 60);have c:∀w1,zF 155 #[.string (Om.B s)] w1 λe w'=>e= zV (.string (Om.B b)) (zI 0)/\zB w1 w':=λw1=>by rw [k];exact (j w1).mono λe w' h=>h
 rw [<-k]at g d;have C:=hT c;have M:=hT (λw1=>uc b Hm.ts w1 (by rw [d];decide) g);have a:Om.B Hm.ts= ⟨#[79,65,75,72]⟩:=rfl;rw [a]at M;obtain ⟨q,f⟩:=eX2 (w.alloc (hV #[zU 0,zI 0,zI 0, .bool false] 188));obtain ⟨m,n,lt⟩:=oz w q f;have t:=hT m;have v:=hT n;have LT:=hT lt;clear h m n lt i j c g k a;go_enter func242,ntmps242;go_wp2_with fail;clear f;refine zg (C.out _) λw1 hb1=>?_;have h1:=(hb1.block _ LT.out).trans v.out;have H1:=hT h1;have l:=zT t hb1;obtain ⟨D,A,z,y,x⟩:=kB h1;clear hb1 h1;go_wp2_with fail;refine zh (M.out _) ?_;go_wp2;refine bodyPost_ret (jM (p:=2) (u:=3) rfl _ _ w.heap.size _ _ _ _ _ rfl rfl (dc H1.out _ _ _ _)) rfl ?_;exact qF s w _ 22 r.out (dd l.out (nm _) _ _ _ _)
theorem Kq (s:zL) (w:World) (h:s.length= 64) (l:Cm.aN s) (j:(s.take 60).take 4= Hm.ts) (d:ji ((s.take 60).drop 4)= false):zF 242 #[.string (Om.B s)] w (kA s w):=by
 have A:(((Om.B s).size:Int) != 64)= false:=by rw [bne_eq_false_iff_eq,Om.aG];omega
 have m:=λw1=>fS s w1 (by omega) (by omega);have a:(s.take 60).length= 60:=by rw [E4];omega
 rw [l,h]at m;have E:=hT (rd_false s h l j d);obtain ⟨b,n⟩:=eX1 (s.take 60);have f:∀w1,zF 155 #[.string (Om.B s)] w1 λe w'=>e= zV (.string (Om.B b)) (zI 0)/\zB w1 w':=λw1=>by rw [n];exact (m w1).mono λe w' h=>h
 rw [<-n]at j d a;have C:=hT f;have M:=hT (λw1=>lA b Hm.ts w1 (by rw [a];decide) j);have c:Om.B Hm.ts= ⟨#[79,65,75,72]⟩:=rfl;rw [c,show b.drop Hm.ts.length= b.drop 4 from rfl]at M;obtain ⟨q,k⟩:=eX1 (b.drop 4);have z:q.length= 56:=by rw [k,IV,a]
 rw [<-k]at M d;have R:=hT (λw1=>zk q w1 (by omega) (by omega));rw [d]at R;rw [qD,show Hv 0 0 0 false= .agg #[zU 0,zI 0,zI 0, .bool false]from rfl]at R;obtain ⟨D,i⟩:=eX2 (w.alloc (hV #[zU 0,zI 0,zI 0, .bool false] 188));obtain ⟨t,v,lt⟩:=oz w D i;have x:=hT t;have G:=hT v;have LT:=hT lt;clear h t v lt l m f j n c a d k;go_enter func242,ntmps242;go_wp2_with fail;clear i;refine zg (C.out _) λw1 hb1=>?_;have I:=hT hb1;clear hb1;go_wp2_with fail;refine zh (M.out _) ?_;go_wp2_with fail;refine zg (R.out _) λw3 hb3=>?_;have H:=zT I hb3;clear hb3;have g:zB w3 (w3.alloc (hV #[zU 0,zI 0,zI 0, .bool false] 188)):=zA;have y:=zT H g;have o:=(y.out.block _ LT.out).trans G.out;have F:=hT o;have r:=hT (x.out.trans (y.out.mono x.out.size));obtain ⟨O,N,L,K,J⟩:=kB o;clear g o;go_wp2;refine bodyPost_ret (jM (p:=2) (u:=3) rfl _ _ w.heap.size _ _ _ _ _ rfl rfl (dc F.out _ _ _ _)) rfl ?_;exact qF s w _ 32 E.out (dd r.out (nm _) _ _ _ _)
theorem Kr (s:zL) (w:World) (h:s.length= 64) (x:Cm.aN s) (n:(s.take 60).take 4= Hm.ts) (f:ji ((s.take 60).drop 4)):zF 242 #[.string (Om.B s)] w (kA s w):=by
 have J:(((Om.B s).size:Int) != 64)= false:=by rw [bne_eq_false_iff_eq,Om.aG];omega
 have y:=λw1=>fS s w1 (by omega) (by omega);have a:(s.take 60).length= 60:=by rw [E4];omega
 rw [x,h]at y;have o:=hT (rd_true s h x n f);obtain ⟨b,z⟩:=eX1 (s.take 60);have k:∀w1,zF 155 #[.string (Om.B s)] w1 λe w'=>e= zV (.string (Om.B b)) (zI 0)/\zB w1 w':=λw1=>by rw [z];exact (y w1).mono λe w' h=>h
 rw [<-z]at n f o a;have C:=hT k;have M:=hT (λw1=>lA b Hm.ts w1 (by rw [a];decide) n);have d:Om.B Hm.ts= ⟨#[79,65,75,72]⟩:=rfl;rw [d,show b.drop Hm.ts.length= b.drop 4 from rfl]at M;obtain ⟨q,v⟩:=eX1 (b.drop 4);have I:q.length= 56:=by rw [v,IV,a]
 rw [<-v]at M f o;have R:=hT (λw1=>zk q w1 (by omega) (by omega));rw [f]at R;rw [zj]at R;obtain ⟨n0,j⟩:=eX1 (Om.at_ q Hm.zs 0);obtain ⟨n1,i⟩:=eX1 (Om.at_ q Hm.zs 1);obtain ⟨t,g⟩:=eX1 (Om.at_ q Hm.zs 2);obtain ⟨r,c⟩:=eX1 (Om.at_ q Hm.zs 3 == 1);rw [<-j,<-i,<-g,<-c]at R o;unfold Hv at R;obtain ⟨K,m⟩:=eX2 (w.alloc (hV #[zU 0,zI 0,zI 0, .bool false] 188));obtain ⟨E,F,lt⟩:=oz w K m;have G:=hT E;have N:=hT F;have LT:=hT lt;clear h E F lt x y k n z d a f v j i g c;go_enter func242,ntmps242;go_wp2_with fail;clear m;refine zg (C.out _) λw1 hb1=>?_;have P:=hT hb1;clear hb1;go_wp2_with fail;refine zh (M.out _) ?_;go_wp2_with fail;refine zg (R.out _) λw3 hb3=>?_;have O:=zT P hb3;clear hb3;have l:zB w3 (w3.alloc (hV #[zU n0,zI n1,zI t, .bool r] 188)):=zA;have H:=zT O l;have A:=(H.out.block _ LT.out).trans N.out;have L:=hT A;have D:=hT (G.out.trans (H.out.mono G.out.size));obtain ⟨V,U,T,S,Q⟩:=kB A;obtain ⟨_,W,b1,b2,b3⟩:=xR w3 n0 n1 t r 188;clear l A;go_wp2;refine bodyPost_ret (jM (p:=2) (u:=3) rfl _ _ w.heap.size _ _ _ _ _ rfl rfl (dc L.out _ _ _ _)) rfl ?_;exact Kl s w _ n0 n1 t r o.out (dd D.out (nm _) _ _ _ _)
theorem Ks (s:zL) (w:World):zF 242 #[.string (Om.B s)] w (kA s w):=by
 by_cases h:s.length= 64;· cases hg:Cm.aN s with
  | false=>exact Kn s w h hg
  | true =>
  by_cases a:(s.take 60).take 4= Hm.ts;· cases hr:ji ((s.take 60).drop 4) with
   | false=>exact Kq s w h hg a hr
   | true=>exact Kr s w h hg a hr
  ·exact Ko s w h hg a
 ·exact Km s w h
end
section
open Go.RowKit
def Sv (t a n:Int) (g:Nat):Value:= .agg #[zI t,zI a,zI n,zU g]
theorem qO (a n:Int) (w:World) (hm:n<9223372036854775808):zF 233 #[zM a n] w (zJ (.bool (Tm.gj a n)) w):=by
 have e:Hid (zB w (w.alloc (zE a n 65))):=zA;by_cases h1:1<=n;·
  have d1:decide (1<=n):=by simpa using h1
  by_cases d:0<=a;·
   have d2:decide (0<=a):=by simpa using d
   have f:lg.wrap (1048576 - n)= 1048576 - n:=rr _ (by omega);have b:Tm.gj a n= decide (a<=1048576 - n):=by unfold Tm.gj;rw [d1,d2];rfl
   have c:=hT b;clear b h1 d hm;go_enter func233,ntmps233;go_wp2_with fail;go_ret;exact ⟨by rw [c.out];rfl,e.out⟩
  ·have d2:decide (0<=a)= false:=by simpa using d
   have b:Tm.gj a n= false:=by unfold Tm.gj;rw [d2];simp
   have c:=hT b;clear b h1 d hm;go_enter func233,ntmps233;go_wp2_with fail;go_ret;exact ⟨by rw [c.out];rfl,e.out⟩
 ·have d1:decide (1<=n)= false:=by simpa using h1
  have b:Tm.gj a n= false:=by unfold Tm.gj;rw [d1];rfl
  have c:=hT b;clear b h1 hm;go_enter func233,ntmps233;go_wp2_with fail;go_ret;exact ⟨by rw [c.out];rfl,e.out⟩
theorem uF (t a n:Int) (g:Nat) (w:World) (h:n<9223372036854775808):zF 194 #[Sv t a n g] w (zJ (.bool (Tm.bp t a n g)) w):=by
 unfold Sv;by_cases l:t= 0;·
  subst l;have d:Hid (zB w (w.alloc (hV #[zI 0,zI a,zI n,zU g] 68))):=zA;by_cases j:a= 0;·
   subst j;by_cases f:n= 0;· subst f;have c:=hT (show Tm.bp 0 0 0 g= true from rfl);go_enter func194,ntmps194;go_wp2_with fail;go_ret;exact ⟨by rw [c.out];rfl,d.out⟩
   ·have d2:(n == 0)= false:=by simpa using f
    have b:Tm.bp 0 0 n g= false:=by rw [Tm.mL];simp [f]
    have c:=hT b;clear b f h;go_enter func194,ntmps194;go_wp2_with fail;go_ret;exact ⟨by rw [c.out];rfl,d.out⟩
  ·have d1:(a == 0)= false:=by simpa using j
   have b:Tm.bp 0 a n g= false:=by rw [Tm.mL];simp [j]
   have c:=hT b;clear b j h;go_enter func194,ntmps194;go_wp2_with fail;go_ret;exact ⟨by rw [c.out];rfl,d.out⟩
 ·by_cases h1:t= 1;·
   subst h1;have d:Hid (zB w (w.alloc (hV #[zI 1,zI a,zI n,zU g] 68))):=zA;by_cases e:1<=g;·
    have d1:decide (1<=(g:Int)):=by simp;omega
    have b:Tm.bp 1 a n g= Tm.gj a n:=by rw [Tm.qy];simp [e]
    have c:=hT b;have FI:=hT (λw1=>qO a n w1 h);clear b e h;go_enter func194,ntmps194;go_wp2_with fail;refine zg (FI.out _) λw1 hb=>?_;have i:=zT d hb;clear hb;go_wp2;go_ret;exact ⟨by rw [c.out];rfl,i.out⟩
   ·have d1:decide (1<=(g:Int))= false:=by simp;omega
    have b:Tm.bp 1 a n g= false:=by rw [Tm.qy];simp [e]
    have c:=hT b;clear b e h;go_enter func194,ntmps194;go_wp2_with fail;go_ret;exact ⟨by rw [c.out];rfl,d.out⟩
  ·by_cases k:t= 2;·
    subst k;have d:Hid (zB w (w.alloc (hV #[zI 2,zI a,zI n,zU g] 68))):=zA;by_cases e:1<=g;·
     have d1:decide (1<=(g:Int)):=by simp;omega
     have b:Tm.bp 2 a n g= Tm.gj a n:=by rw [Tm.tZ];simp [e]
     have c:=hT b;have FI:=hT (λw1=>qO a n w1 h);clear b e h;go_enter func194,ntmps194;go_wp2_with fail;refine zg (FI.out _) λw1 hb=>?_;have i:=zT d hb;clear hb;go_wp2;go_ret;exact ⟨by rw [c.out];rfl,i.out⟩
    ·have d1:decide (1<=(g:Int))= false:=by simp;omega
     have b:Tm.bp 2 a n g= false:=by rw [Tm.tZ];simp [e]
     have c:=hT b;clear b e h;go_enter func194,ntmps194;go_wp2_with fail;go_ret;exact ⟨by rw [c.out];rfl,d.out⟩
   ·have o:(t == 0)= false:=by simpa using l
    have m:(t == 1)= false:=by simpa using h1
    have t2:(t == 2)= false:=by simpa using k
    have c:=hT (Tm.yT t a n g l h1 k);clear l h1 k h;have d:Hid (zB w (w.alloc (hV #[zI t,zI a,zI n,zU g] 68))):=zA;go_enter func194,ntmps194;go_wp2_with fail;go_ret;exact ⟨by rw [c.out];rfl,d.out⟩
theorem LH (w:World):zF 195 #[] w λ e w'=>e= nf (zS w.heap.size 4 4)/\Row w' w'.heap.size (some ⟨w.heap.size,0,none⟩) 4 (bz Tm.zs)/\zB w w':=by
 have b:(w.alloc (hV #[zI 1,zI 4,zI 4,zI 4] 3)).ownsRow w.heap.size 3 1 (zS w.heap.size 4 4) 4 [zI 1,zI 4,zI 4,zI 4]:=VX w #[zI 1,zI 4,zI 4,zI 4] 4 (nm _) (by unfold maxLen;omega) rfl
 have a:Row (w.alloc (hV #[zI 1,zI 4,zI 4,zI 4] 3)) (w.alloc (hV #[zI 1,zI 4,zI 4,zI 4] 3)).heap.size (some ⟨w.heap.size,0,none⟩) 4 (bz Tm.zs):=Row.own b (λ i hi=>by
 match i,hi with
 | 0,_=>rfl
 | 1,_=>rfl
 | 2,_=>rfl
 | 3,_=>rfl)
 have d:Hid (zB w (w.alloc (hV #[zI 1,zI 4,zI 4,zI 4] 3))):=zA
 have c:=hT a
 clear b a
 go_enter func195,ntmps195
 go_wp2
 go_ret
 exact ⟨rfl,c.out,d.out⟩
end
section
open Go.RowKit
structure Tx (W:World) (k:Nat) (t a n:Int) (g:Nat):Prop where
 lt:k<W.heap.size
 c0:W.cell? (zD k 0)= some (zI t)
 c1:W.cell? (zD k 1)= some (zI a)
 c2:W.cell? (zD k 2)= some (zI n)
 c3:W.cell? (zD k 3)= some (zU g)
variable{k g:Nat}
theorem Tx.below {W W':World} {t a n:Int} {B:Nat} (h:Tx W k t a n g) (hk:k<B) (hb:Below B W W'):Tx W' k t a n g:= ⟨ti h.lt hb.size,(hb.cell (p:=(zD k 0)) hk).trans h.c0,(hb.cell (p:=(zD k 1)) hk).trans h.c1,(hb.cell (p:=(zD k 2)) hk).trans h.c2,(hb.cell (p:=(zD k 3)) hk).trans h.c3⟩
theorem Tx.next {W W':World} {t a n:Int} (h:Tx W k t a n g) (hb:zB W W'):Tx W' k t a n g:=h.below h.lt hb
theorem uG {W:World} {t a n:Int} {ty:TypeId} (h:W.heap[k]?= some (hV #[zI t,zI a,zI n,zU g] ty (0,0))):Tx W k t a n g:= ⟨(DN.1 h).1,zW h,zW h,zW h,zW h⟩
theorem Aw (w:World) (t a n:Int) (g:Nat) (ty:TypeId):Tx (w.alloc (hV #[zI t,zI a,zI n,zU g] ty)) w.heap.size t a n g:=uG (heap_alloc_new w _)
theorem LI (t a n:Int) (g:Nat) (w:World) (d:n<9223372036854775808) (b:Tm.bp t a n g= false): zF 144 #[Sv t a n g] w λe w'=>e= zV (.string (Om.B [])) (zI 1)/\zB w w':=by have R:=hT (λw1=>uF t a n g w1 d);rw [b]at R;have f:Hid (zB w (w.alloc (hV #[zI t,zI a,zI n,zU g] 68))):=zA;unfold Sv at R⊢;clear b d;go_enter func144,ntmps144;go_wp2_with fail;refine zg (R.out _) λw1 hb=>?_;have c:=zT f hb;clear hb;go_wp2;go_ret2;exact ⟨rfl,c.out⟩
theorem qP (w:World):zF 195 #[] w λe w'=>∃k,e= nf (zS k 4 4)/\Row w' w'.heap.size (some ⟨k,0,none⟩) 4 (bz Tm.zs)/\zB w w':= (LH w).mono λe w' h=>⟨w.heap.size,h⟩
def jk (t a n g:Nat):Obj:= hV #[.int wb (wb.wrap (t:Int)), .int wb (wb.wrap (a:Int)), .int wb (wb.wrap (n:Int)), .int wb (wb.wrap (g:Int))] 197
theorem Ax (t a n g:Nat):Tm.ag t a n g= [t,a,n,g]:=by unfold Tm.ag;rw [GH,GH,GH]
theorem Ay (t a n g:Nat) (W:World) (f:t<=2) (l:a<=1048576) (j:n<=1048576) (k:g<4294967296):Row (W.alloc (jk t a n g)) (W.alloc (jk t a n g)).heap.size (some ⟨W.heap.size,0,none⟩) 4 (gN (Tm.ag t a n g)):=λ_=> ⟨W.heap.size,0,rfl,by simp,λi hi=>by have h:=heap_alloc_new W (jk t a n g);have e:wb.wrap (t:Int)= (t:Int):=T6 _ (by omega);have d:wb.wrap (a:Int)= (a:Int):=T6 _ (by omega);have c:wb.wrap (n:Int)= (n:Int):=T6 _ (by omega);have b:wb.wrap (g:Int)= (g:Int):=T6 _ (by omega);unfold jk at h⊢;rw [e,d,c,b]at h⊢;rw [cell_of_row _ _ _ _ _ _ h,Ax];match i,hi with
 | 0,_=>rfl
 | 1,_=>rfl
 | 2,_=>rfl
 | 3,_=>rfl⟩
theorem Az (t a n g:Nat) (b:t<=2) (e:a<=1048576) (c:n<=1048576) (d:g<4294967296) (i:Nat):(Tm.ag t a n g).getD i 0<18446744073709551616:=by rw [Ax];match i with
 | 0=>show t<_;omega
 | 1=>show a<_;omega
 | 2=>show n<_;omega
 | 3=>show g<_;omega
 | j+4=>show 0<_;omega
theorem LJ (t a n g:Nat) (d:g<4294967296) (b:Tm.bp t a n g) (W:World) (ks:Nat) (i:Row W W.heap.size (some ⟨ks,0,none⟩) 4 (bz Tm.zs)): zF 148 #[zS ks 4 4, zS W.heap.size 4 4] (W.alloc (jk t a n g)) λe w'=>e= zV (.string (Om.B (Om.ct Tm.zs (Tm.ag t a n g) 4))) (zI 0)/\zB W w':=by obtain ⟨r,q,p,o,m,l⟩:=Tm.jK b;have c:zB W (W.alloc (jk t a n g)):=(G3 _ W).alloc (nm _) _;have h:=Tm.jy t a n g d b;have j:(Tm.ag t a n g).length= 4:=rfl;refine (mj Tm.zs (Tm.ag t a n g) _ _ _ 4 4 4 4 _ rfl j (by omega) (by omega) (nm _) ((i.below c).more c.size) (Ay t a n g W (by omega) (by omega) (by omega) d) (Az t a n g (by omega) (by omega) (by omega) d)).mono ?_;rw [h.1,h.2];rintro e w' ⟨k,f⟩;exact ⟨k,c.trans (f.mono c.size)⟩
theorem LK (t a n g:Nat) (f:g<4294967296) (b:Tm.bp t a n g) (W:World) (ks kn:Nat) (h:Row W W.heap.size (some ⟨ks,0,none⟩) 4 (bz Tm.zs)) (i:Row W W.heap.size (some ⟨kn,0,none⟩) 4 (gN (Tm.ag t a n g))): zF 148 #[zS ks 4 4, zS kn 4 4] W λe w'=>e= zV (.string (Om.B (Om.ct Tm.zs (Tm.ag t a n g) 4))) (zI 0)/\zB W w':=by obtain ⟨r,q,p,o,m,l⟩:=Tm.jK b;have d:=Tm.jy t a n g f b;have j:(Tm.ag t a n g).length= 4:=rfl;refine (mj Tm.zs (Tm.ag t a n g) _ _ _ 4 4 4 4 _ rfl j (by omega) (by omega) (nm _) h i (Az t a n g (by omega) (by omega) (by omega) f)).mono ?_;rw [d.1,d.2];rintro e w' ⟨k,c⟩;exact ⟨k,c⟩
theorem LL {t a n:Nat} {w1 w2:World} (d:g<4294967296) (b:Tm.bp t a n g) (h:Below (w1.drew.alloc (jk t a n g)).heap.size (w1.drew.alloc (jk t a n g)) w2): Row w2 w2.heap.size (some ⟨w1.heap.size,0,none⟩) 4 (gN (Tm.ag t a n g))/\zB w1 w2:=by obtain ⟨l,k,j,i,f,e⟩:=Tm.jK b;have c:zB w1 (w1.drew.alloc (jk t a n g)):=(G3 _ w1).drew.alloc (nm _) _;exact ⟨((Ay t a n g w1.drew (by omega) (by omega) (by omega) d).below h).more h.size,c.trans (h.mono c.size)⟩
theorem LM (l:zL) (w:World) (h:l.length<=60): zF 150 #[.string (Om.B l),zI 64] w λe w'=>e= zV (.string (Om.B (ff l 60))) (zI 0)/\zB w w':=pH l 60 w (by omega) h
theorem LN (t a n g:Nat) (w:World) (u:g<4294967296) (c:Tm.bp t a n g): zF 144 #[Sv t a n g] w λe w'=>e= zV (.string (Om.B (Tm.ah t a n g))) (zI 0)/\zB w w':=by
 obtain ⟨N,L,K,I,H,G⟩:=Tm.jK c;have R:=hT (λw1=>uF t a n g w1 (by omega));rw [c]at R;have m:=hT (Aw w t a n g 68);have C:Hid (zB w (w.alloc (hV #[zI t,zI a,zI n,zU g] 68))):=zA;obtain ⟨O,o⟩:=eX2 (w.alloc (hV #[zI t,zI a,zI n,zU g] 68));rw [o]at C m;obtain ⟨s,r,a1,a2,a3⟩:=m.out;have z:=hT qP;have J:=hT (LJ t a n g u c);have A:=hT (LK t a n g u c);have M:=hT (λ(w1 w2:World)=>LL (w1:=w1) (w2:=w2) u c);obtain ⟨body,b⟩:=eX1 (Om.ct Tm.zs (Tm.ag t a n g) 4);have k:body.length= 13:=by rw [b,Om.kb Tm.zs _ 4 (by decide)];exact Tm.iA
 have j:Tm.ah t a n g= ff (Tm.ts ++ body) 60:=by rw [b];rfl
 have E:=hT (λw1=>LM (Tm.ts ++ body) w1 (by rw [DC,k];decide));have y:=jx Tm.ts body (by rw [k];decide);have D:(⟨#[79,65,75,83]⟩:ByteArray) ++ Om.B body= Om.B (Tm.ts ++ body):=Om.fy Tm.ts body;rw [<-b]at J A;rw [j];unfold jk at J M;unfold Sv at R⊢;clear c b j k;go_enter func144,ntmps144;go_wp2_with fail;clear o;refine zg (R.out _) λw1 hb=>?_;have q:=zT C hb;have x:=hT (m.out.next hb);clear hb r a1 a2 a3 s;obtain ⟨i,r,a1,a2,a3⟩:=x.out;go_wp2;go_region_held3 (λw'=>w'.cell? (zz w 0)= some (zI t)/\w'.cell? (zz w 1)= some (zI a)/\w'.cell? (zz w 2)= some (zI n)/\w'.cell? (zz w 3)= some (zU g)) (first|go_keep|(refine ⟨?_,?_,?_,?_⟩<;>assumption)|(exact ⟨(h.out.cell (p:=(zz w 0)) i).trans r,(h.out.cell (p:=(zz w 1)) i).trans a1,(h.out.cell (p:=(zz w 2)) i).trans a2,(h.out.cell (p:=(zz w 3)) i).trans a3⟩)) (first|(go_at_call 195;refine (z.out _).mono ?_;rintro e w2 ⟨ks,rfl,f,d⟩;have h:Hid (zB w1 w2):=zR.drew.trans d;have l:=hT f;clear d f)|(go_at_call 195;refine (z.out _).mono ?_;rintro e w2 ⟨ks,rfl,f,d⟩;have F:=hT (M.out _ _ d).1;have h:=hT (M.out _ _ d).2;have l:=hT f;clear d f)|(go_at_call 148;refine zg (A.out _ _ _ l.out F.out) λw4 hb4=>?_;have BY:=h;have h:Hid (zB w1 w4):=zH BY hb4;clear hb4)|(go_at_call 148;refine zg (J.out _ _ l.out) λw4 hb4=>?_;have BY:=h;have h:Hid (zB w1 w4):=zH BY hb4;clear hb4));all_goals clear r a1 a2 a3;go_wp2_with fail;refine zg (E.out _) λw5 hb5=>?_;have v:=hT (q.out.trans ((zH h hb5).mono q.out.size));clear hb5;go_wp2;go_ret2;exact ⟨rfl,v.out⟩
theorem LP (t a n:Int) (g:Nat) (w:World) (d:n<9223372036854775808) (f:g<4294967296): zF 144 #[Sv t a n g] w λe w'=>e= zV (.string (Om.B (Tm.encS t a n g))) (zI (Tm.dC t a n g))/\zB w w':=by cases hok:Tm.bp t a n g with
 | false => rw [(Tm.iB hok).1,(Tm.iB hok).2];exact LI t a n g w d hok
 | true => rw [(Tm.eI hok).1,(Tm.eI hok).2];obtain ⟨p,o,l,k,j,i⟩:=Tm.jK hok;obtain ⟨b,rfl⟩:∃m:Nat,t= (m:Int):=⟨t.toNat,by omega⟩;obtain ⟨h,rfl⟩:∃m:Nat,a= (m:Int):=⟨a.toNat,by omega⟩;obtain ⟨c,rfl⟩:∃m:Nat,n= (m:Int):=⟨n.toNat,by omega⟩;exact LN b h c g w f hok
end
section
open Go.RowKit
theorem gH {fn:Func} {p u:Tmp} (h:fn.results= #[.cell p 68, .tmp u]) (tmps:Array Value) (w:World) (g:Nat) (x0 x1 x2 x3 v:Value) (hp:tmps.getD p undef= zP g) (hu:tmps.getD u undef= v) (a:w.heap[g]?= some (hV #[x0,x1,x2,x3] 68 (0,0))): (results fn tmps).run prog w= .ok (CE #[.agg #[x0,x1,x2,x3],v]) w:=by
 have hi:(prog.info? 68).map (·.size)= some (#[x0,x1,x2,x3]:Array Value).size:=by kernel_rfl
 rw [results_cell_tmp h,hp,hu];simp [asAddr,run_loadVar_row w g 68 68 #[x0,x1,x2,x3] (0,0) _ a underlying68 rfl hi,Ty]
def lF (r:zL) (n0 n1 n2 n3:Nat) (w:World) (e:Ending) (w':World):Prop:= ∃ nb : Nat, e = nf (CE #[.slice (some ⟨nb, 0, none⟩) 4 4, .string (Om.B r),zI 0]) /\ nb < w'.heap.size /\ w'.cell? (zD nb 0)= some (.int wb n0)/\w'.cell? (zD nb 1)= some (.int wb n1)/\w'.cell? (zD nb 2)= some (.int wb n2)/\w'.cell? (zD nb 3)= some (.int wb n3)/\zB w w'
theorem LQ (q:zL) (h:13<=q.length) (a:Option Addr) (cap:Nat) (w:World) (f:Row w w.heap.size a 4 (bz Tm.zs)): zF 201 #[.string (Om.B q), .slice a 4 cap] w (lF (q.drop 13) (Om.at_ q Tm.zs 0) (Om.at_ q Tm.zs 1) (Om.at_ q Tm.zs 2) (Om.at_ q Tm.zs 3) w):=by refine (qA q Tm.zs w.heap.size a 4 cap w rfl (by omega) (nm _) f (by decide) (by rw [show Om.off Tm.zs 4= 13 by decide];exact h)).mono ?_;rintro e w' ⟨d,c,_,i,b,g⟩;rw [show Om.off Tm.zs 4= 13 by decide]at c;exact ⟨d,c,i,b 0 (by omega),b 1 (by omega),b 2 (by omega),b 3 (by omega),g⟩
theorem kC (w W0:World) (h:w.alloc (hV #[zI 0,zI 0,zI 0,zU 0] 68)= W0): zB w W0/\W0.heap[w.heap.size]?= some (hV #[zI 0,zI 0,zI 0,zU 0] 68 (0,0))/\w.heap.size<W0.heap.size:=by subst h;have h1:=heap_alloc_new w (hV #[zI 0,zI 0,zI 0,zU 0] 68);exact ⟨zA,h1,(DN.1 h1).1⟩
theorem kD {W:World} {g:Nat} {t:TypeId} (h:W.heap[g]?= some (hV #[zI 0,zI 0,zI 0,zU 0] t (0,0))): W.cell? (zD g 0)= some (zI 0)/\W.cell? (zD g 1)= some (zI 0)/\W.cell? (zD g 2)= some (zI 0)/\W.cell? (zD g 3)= some (zU 0)/\∀j,W.frozen? (zD g j)= false:= ⟨zW h,zW h,zW h,zW h,λj=>frozen_of_row (j:=j) _ _ _ _ h⟩
def uH (aN:Bool) (t a n g:Nat):Value:=if aN= true then Sv t a n g else Sv 0 0 0 0
theorem uI (t a n g:Nat):uH false t a n g= Sv 0 0 0 0:=rfl
theorem AA (t a n g:Nat):uH true t a n g= Sv t a n g:=rfl
theorem LR (q r:zL) (n0 n1 n2 n3:Nat) (w:World) (G:Hid (∀a cap w1,Row w1 w1.heap.size a 4 (bz Tm.zs)->zF 201 #[.string (Om.B q), .slice a 4 cap] w1 (lF r n0 n1 n2 n3 w1))) (Z:Hid (∀w1,zF 202 #[.string (Om.B r)] w1 λe w'=>e= nf (.bool false)/\w1= w')): zF 157 #[.string (Om.B q)] w λe w'=>e= zV (Sv 0 0 0 0) (.bool false)/\zB w w':=by have s:=hT qP;unfold lF at G;obtain ⟨o,f⟩:=eX2 (w.alloc (hV #[zI 0,zI 0,zI 0,zU 0] 68));obtain ⟨k,l,lt⟩:=kC w o f;have m:=hT k;have v:=hT l;have LT:=hT lt;unfold Sv;clear k l lt;go_enter func157,ntmps157;go_wp2_with fail;clear f;refine (s.out _).mono ?_;rintro e w1 ⟨ks,rfl,b,d⟩;have i:=hT b;have x:=hT d;clear b d;go_wp2_with fail;refine (G.out _ _ _ i.out).mono ?_;rintro e w2 ⟨E,rfl,g,c0,c1,c2,c3,c⟩;have n:=zT x c;clear c;go_wp2_with fail;refine zh (Z.out _) ?_;clear g c0 c1 c2 c3;have h:=(n.out.block _ LT.out).trans v.out;have t:=hT h;have j:=hT (m.out.trans (n.out.mono m.out.size));obtain ⟨D,C,A,z,y⟩:=kD h;clear h;go_wp2;refine bodyPost_ret (gH (p:=2) (u:=3) rfl _ _ w.heap.size _ _ _ _ _ rfl rfl (dc t.out _ _ _ _)) rfl ⟨rfl,?_⟩;exact dd j.out (nm _) _ _ _ _
theorem LU (q r:zL) (n0 n1 n2 n3:Nat) (w:World) (k:n0<256) (h1:n1<4294967296) (F:n2<4294967296) (E:n3<4294967296) (G:Hid (∀a cap w1,Row w1 w1.heap.size a 4 (bz Tm.zs)->zF 201 #[.string (Om.B q), .slice a 4 cap] w1 (lF r n0 n1 n2 n3 w1))) (Z:Hid (∀w1,zF 202 #[.string (Om.B r)] w1 λe w'=>e= nf (.bool true)/\w1= w')) (R:Hid (∀w1,zF 194 #[Sv n0 n1 n2 n3] w1 λe w'=>e= nf (.bool false)/\zB w1 w')): zF 157 #[.string (Om.B q)] w λe w'=>e= zV (Sv 0 0 0 0) (.bool false)/\zB w w':=by have V:lg.wrap (n0:Int)= (n0:Int):=rr _ (by omega);have U:lg.wrap (n1:Int)= (n1:Int):=rr _ (by omega);have T:lg.wrap (n2:Int)= (n2:Int):=rr _ (by omega);have S:IntKind.u32.wrap (n3:Int)= (n3:Int):=Vs _ (by omega);clear k h1 F E;have I:=hT qP;unfold lF at G;obtain ⟨H,h⟩:=eX2 (w.alloc (hV #[zI 0,zI 0,zI 0,zU 0] 68));obtain ⟨x,k,lt⟩:=kC w H h;have A:=hT x;have K:=hT k;have LT:=hT lt;unfold Sv at R⊢;clear x k lt;go_enter func157,ntmps157;go_wp2_with fail;clear h;refine (I.out _).mono ?_;rintro e w1 ⟨ks,rfl,c,g⟩;have o:=hT c;have L:=hT g;clear c g;go_wp2_with fail;refine (G.out _ _ _ o.out).mono ?_;rintro e w2 ⟨j,rfl,m,c0,c1,c2,c3,f⟩;have C:=zT L f;clear f;go_wp2_with fail;refine zh (Z.out _) ?_;go_wp2;go_region_held3 (λw'=>w'.cell? (zD j 0)= some (.int wb n0)/\w'.cell? (zD j 1)= some (.int wb n1)/\w'.cell? (zD j 2)= some (.int wb n2)/\w'.cell? (zD j 3)= some (.int wb n3)) (first|go_keep|(refine ⟨?_,?_,?_,?_⟩<;>assumption)) (fail);all_goals
 obtain ⟨z,b⟩:=eX2 ((w2.alloc (hV #[zI n0,zI n1,zI n2,zU n3] 68)).drew);have d:zB w2 z:=by rw [<-b];exact zA.drew
 have i:Tx z w2.heap.size n0 n1 n2 n3:=by rw [<-b];exact uG (heap_alloc_new w2 _)
 rw [b];have v:=zT C d;have t:=hT i;clear b c0 c1 c2 c3 m d C;obtain ⟨D,y,b1,b2,b3⟩:=i;have l:=ti LT.out v.out.size;go_wp2_with fail;refine zg (R.out _) λw4 hb4=>?_;have n:=(hb4.block _ l).trans ((v.out.block _ LT.out).trans K.out);have J:=hT n;have s:=hT (A.out.trans ((zH v hb4).mono A.out.size));obtain ⟨Q,P,O,N,M⟩:=kD n;clear y b1 b2 b3;obtain ⟨_,y,b1,b2,b3⟩:=t.out.next hb4;clear n hb4;go_wp2;refine bodyPost_ret (gH (p:=2) (u:=3) rfl _ _ w.heap.size _ _ _ _ _ rfl rfl (dc J.out _ _ _ _)) rfl ⟨rfl,?_⟩;exact dd s.out (nm _) _ _ _ _
theorem LV (q r:zL) (n0 n1 n2 n3:Nat) (w:World) (k:n0<256) (h1:n1<4294967296) (F:n2<4294967296) (E:n3<4294967296) (G:Hid (∀a cap w1,Row w1 w1.heap.size a 4 (bz Tm.zs)->zF 201 #[.string (Om.B q), .slice a 4 cap] w1 (lF r n0 n1 n2 n3 w1))) (Z:Hid (∀w1,zF 202 #[.string (Om.B r)] w1 λe w'=>e= nf (.bool true)/\w1= w')) (R:Hid (∀w1,zF 194 #[Sv n0 n1 n2 n3] w1 λe w'=>e= nf (.bool true)/\zB w1 w')): zF 157 #[.string (Om.B q)] w λe w'=>e= zV (Sv n0 n1 n2 n3) (.bool true)/\zB w w':=by have V:lg.wrap (n0:Int)= (n0:Int):=rr _ (by omega);have U:lg.wrap (n1:Int)= (n1:Int):=rr _ (by omega);have T:lg.wrap (n2:Int)= (n2:Int):=rr _ (by omega);have S:IntKind.u32.wrap (n3:Int)= (n3:Int):=Vs _ (by omega);clear k h1 F E;have I:=hT qP;unfold lF at G;obtain ⟨H,h⟩:=eX2 (w.alloc (hV #[zI 0,zI 0,zI 0,zU 0] 68));obtain ⟨x,k,lt⟩:=kC w H h;have A:=hT x;have K:=hT k;have LT:=hT lt;unfold Sv at R⊢;clear x k lt;go_enter func157,ntmps157;go_wp2_with fail;clear h;refine (I.out _).mono ?_;rintro e w1 ⟨ks,rfl,c,g⟩;have o:=hT c;have L:=hT g;clear c g;go_wp2_with fail;refine (G.out _ _ _ o.out).mono ?_;rintro e w2 ⟨j,rfl,m,c0,c1,c2,c3,f⟩;have C:=zT L f;clear f;go_wp2_with fail;refine zh (Z.out _) ?_;go_wp2;go_region_held3 (λw'=>w'.cell? (zD j 0)= some (.int wb n0)/\w'.cell? (zD j 1)= some (.int wb n1)/\w'.cell? (zD j 2)= some (.int wb n2)/\w'.cell? (zD j 3)= some (.int wb n3)) (first|go_keep|(refine ⟨?_,?_,?_,?_⟩<;>assumption)) (fail);all_goals
 obtain ⟨z,b⟩:=eX2 ((w2.alloc (hV #[zI n0,zI n1,zI n2,zU n3] 68)).drew);have d:zB w2 z:=by rw [<-b];exact zA.drew
 have i:Tx z w2.heap.size n0 n1 n2 n3:=by rw [<-b];exact uG (heap_alloc_new w2 _)
 rw [b];have v:=zT C d;have t:=hT i;clear b c0 c1 c2 c3 m d C;obtain ⟨D,y,b1,b2,b3⟩:=i;have l:=ti LT.out v.out.size;go_wp2_with fail;refine zg (R.out _) λw4 hb4=>?_;have n:=(hb4.block _ l).trans ((v.out.block _ LT.out).trans K.out);have J:=hT n;have s:=hT (A.out.trans ((zH v hb4).mono A.out.size));obtain ⟨Q,P,O,N,M⟩:=kD n;clear y b1 b2 b3;obtain ⟨_,y,b1,b2,b3⟩:=t.out.next hb4;clear n hb4;go_wp2;refine bodyPost_ret (gH (p:=2) (u:=3) rfl _ _ w.heap.size _ _ _ _ _ rfl rfl (dc J.out _ _ _ _)) rfl ⟨rfl,?_⟩;exact dd s.out (nm _) _ _ _ _
def jl (q:zL):Bool:=dB (q.drop 13) && Tm.dr (Om.at_ q Tm.zs 0) (Om.at_ q Tm.zs 1) (Om.at_ q Tm.zs 2) (Om.at_ q Tm.zs 3)
theorem qQ (q:zL) (i k:Nat) (h:(Tm.zs.getD i 0).toNat<=k):Om.at_ q Tm.zs i<256 ^ k:=by unfold Om.at_;have h1:=Om.nr ((q.drop (Om.off Tm.zs i)).take (Tm.zs.getD i 0).toNat);have a:256 ^ ((q.drop (Om.off Tm.zs i)).take (Tm.zs.getD i 0).toNat).length<=256 ^ k:=VE (by omega) (by rw [E4];exact A6 (VF _ _) h);omega
theorem AE (q:zL) (w:World) (h:13<=q.length) (f:q.length<=60): zF 157 #[.string (Om.B q)] w λe w'=>e= zV (uH (jl q) (Om.at_ q Tm.zs 0) (Om.at_ q Tm.zs 1) (Om.at_ q Tm.zs 2) (Om.at_ q Tm.zs 3)) (.bool (jl q))/\zB w w':=by unfold jl;have G:=hT (LQ q h);have Z:=hT (λw1=>nD (q.drop 13) w1 (by rw [IV];omega));cases hz:dB (q.drop 13) with
 | false => rw [hz]at Z;rw [T5,uI];exact LR q _ _ _ _ _ w G Z
 | true => rw [hz]at Z;rw [T4];have d:Om.at_ q Tm.zs 0<256:=qQ q 0 1 (by decide);have h1:Om.at_ q Tm.zs 1<4294967296:=qQ q 1 4 (by decide);have c:Om.at_ q Tm.zs 2<4294967296:=qQ q 2 4 (by decide);have b:Om.at_ q Tm.zs 3<4294967296:=qQ q 3 4 (by decide);have R:=hT (λw1=>uF (Om.at_ q Tm.zs 0) (Om.at_ q Tm.zs 1) (Om.at_ q Tm.zs 2) (Om.at_ q Tm.zs 3) w1 (by omega));cases hok:Tm.dr (Om.at_ q Tm.zs 0) (Om.at_ q Tm.zs 1) (Om.at_ q Tm.zs 2) (Om.at_ q Tm.zs 3) with
 | false => have a:Tm.bp (Om.at_ q Tm.zs 0) (Om.at_ q Tm.zs 1) (Om.at_ q Tm.zs 2) (Om.at_ q Tm.zs 3)= false:=hok;rw [uI];rw [a]at R;exact LU q _ _ _ _ _ w d h1 c b G Z R
 | true => have a:Tm.bp (Om.at_ q Tm.zs 0) (Om.at_ q Tm.zs 1) (Om.at_ q Tm.zs 2) (Om.at_ q Tm.zs 3):=hok;rw [AA];rw [a]at R;exact LV q _ _ _ _ _ w d h1 c b G Z R
end
section
open Go.RowKit
def qR (s:zL):Value:=Sv (Tm.ev s) (Tm.bN s) (Tm.bO s) (Tm.aH s)
def jQ (s:zL) (w:World) (e:Ending) (w':World):Prop:=e= zV (qR s) (zI (Tm.av s))/\zB w w'
theorem qS (s:zL) (w w':World) (x:Int) (h:Tm.av s= x/\Tm.ev s= 0/\Tm.bN s= 0/\Tm.bO s= 0/\Tm.aH s= 0) (a:zB w w'):jQ s w (zV (.agg #[zI 0,zI 0,zI 0,zU 0]) (zI x)) w':= ⟨by unfold qR;rw [h.1,h.2.1,h.2.2.1,h.2.2.2.1,h.2.2.2.2];rfl,a⟩
theorem LW (s:zL) (w w':World) (t a n g:Nat) (h:Tm.av s= 0/\Tm.ev s= t/\Tm.bN s= a/\Tm.bO s= n/\Tm.aH s= g) (b:zB w w'):jQ s w (zV (.agg #[zI t,zI a,zI n,zU g]) (zI 0)) w':= ⟨by unfold qR;rw [h.1,h.2.1,h.2.2.1,h.2.2.2.1,h.2.2.2.2];rfl,b⟩
theorem LX (s:zL) (h:s.length= 64) (c:Cm.aN s) (b:(s.take 60).take 4= Tm.ts) (a:jl ((s.take 60).drop 4)= false):Tm.av s= 32/\Tm.ev s= 0/\Tm.bN s= 0/\Tm.bO s= 0/\Tm.aH s= 0:=by unfold jl at a;cases hz:dB (((s.take 60).drop 4).drop 13) with
 | false=>exact Tm.gy s 32 (Sc.pM h c b hz) (by decide)
 | true => rw [hz,T4]at a;exact Tm.kX s (Sc.ml h c b hz) a
theorem LY (s:zL) (h:s.length= 64) (c:Cm.aN s) (b:(s.take 60).take 4= Tm.ts) (a:jl ((s.take 60).drop 4)): Tm.av s= 0/\Tm.ev s= Om.at_ ((s.take 60).drop 4) Tm.zs 0/\Tm.bN s= Om.at_ ((s.take 60).drop 4) Tm.zs 1/\Tm.bO s= Om.at_ ((s.take 60).drop 4) Tm.zs 2/\Tm.aH s= Om.at_ ((s.take 60).drop 4) Tm.zs 3:=by unfold jl at a;rw [N6]at a;exact Tm.gQ s (Sc.ml h c b a.1) a.2
theorem LZ (s:zL) (w:World) (h:s.length≠64):zF 103 #[.string (Om.B s)] w (jQ s w):=by
 have d:(((Om.B s).size:Int) != 64):=by rw [bne_iff_ne,Om.aG];omega
 have f:=hT (Tm.gy s 21 (Sc.pJ h) (by decide));obtain ⟨e,a⟩:=eX2 (w.alloc (hV #[zI 0,zI 0,zI 0,zU 0] 68));obtain ⟨c,b,lt⟩:=kC w e a;have g:=hT c;have i:=hT b;obtain ⟨n,m,l,k,j⟩:=kD b;clear h c b lt;go_enter func103,ntmps103;go_wp2;refine bodyPost_ret (gH (p:=2) (u:=3) rfl _ _ w.heap.size _ _ _ _ _ rfl rfl (dc i.out _ _ _ _)) rfl ?_;exact qS s w _ 21 f.out (dd g.out (nm _) _ _ _ _)
theorem L_ (s:zL) (w:World) (h:s.length= 64) (b:Cm.aN s= false):zF 103 #[.string (Om.B s)] w (jQ s w):=by
 have j:(((Om.B s).size:Int) != 64)= false:=by rw [bne_eq_false_iff_eq,Om.aG];omega
 have m:=hT (Tm.gy s 31 (Sc.pK h b) (by decide));have c:=λw1=>fS s w1 (by omega) (by omega);rw [b]at c;have C:=hT c;obtain ⟨l,a⟩:=eX2 (w.alloc (hV #[zI 0,zI 0,zI 0,zU 0] 68));obtain ⟨g,i,lt⟩:=kC w l a;have n:=hT g;have o:=hT i;have LT:=hT lt;clear h g i lt b c;go_enter func103,ntmps103;go_wp2_with fail;clear a;refine (C.out _).mono ?_;rintro e w1 ⟨k,d⟩;obtain rfl:e= zV (.string (Om.B [])) (zI 31):=k;have h1:=(d.block _ LT.out).trans o.out;have H1:=hT h1;have f:=zT n d;obtain ⟨x,v,t,r,q⟩:=kD h1;clear d h1;go_wp2;refine bodyPost_ret (gH (p:=2) (u:=3) rfl _ _ w.heap.size _ _ _ _ _ rfl rfl (dc H1.out _ _ _ _)) rfl ?_;exact qS s w _ 31 m.out (dd f.out (nm _) _ _ _ _)
theorem Ma (s:zL) (w:World) (h:s.length= 64) (i:Cm.aN s) (g:(s.take 60).take 4≠Tm.ts):zF 103 #[.string (Om.B s)] w (jQ s w):=by
 have o:(((Om.B s).size:Int) != 64)= false:=by rw [bne_eq_false_iff_eq,Om.aG];omega
 have j:=λw1=>fS s w1 (by omega) (by omega);have d:(s.take 60).length= 60:=by rw [E4];omega
 rw [i,h]at j;have r:=hT (Tm.gy s 22 (Sc.pL h i g) (by decide));obtain ⟨b,k⟩:=eX1 (s.take 60);have c:∀w1,zF 155 #[.string (Om.B s)] w1 λe w'=>e= zV (.string (Om.B b)) (zI 0)/\zB w1 w':=λw1=>by rw [k];exact (j w1).mono λe w' h=>h
 rw [<-k]at g d;have C:=hT c;have M:=hT (λw1=>uc b Tm.ts w1 (by rw [d];decide) g);have a:Om.B Tm.ts= ⟨#[79,65,75,83]⟩:=rfl;rw [a]at M;obtain ⟨q,f⟩:=eX2 (w.alloc (hV #[zI 0,zI 0,zI 0,zU 0] 68));obtain ⟨m,n,lt⟩:=kC w q f;have t:=hT m;have v:=hT n;have LT:=hT lt;clear h m n lt i j c g k a;go_enter func103,ntmps103;go_wp2_with fail;clear f;refine zg (C.out _) λw1 hb1=>?_;have h1:=(hb1.block _ LT.out).trans v.out;have H1:=hT h1;have l:=zT t hb1;obtain ⟨D,A,z,y,x⟩:=kD h1;clear hb1 h1;go_wp2_with fail;refine zh (M.out _) ?_;go_wp2;refine bodyPost_ret (gH (p:=2) (u:=3) rfl _ _ w.heap.size _ _ _ _ _ rfl rfl (dc H1.out _ _ _ _)) rfl ?_;exact qS s w _ 22 r.out (dd l.out (nm _) _ _ _ _)
theorem Mb (s:zL) (w:World) (h:s.length= 64) (l:Cm.aN s) (j:(s.take 60).take 4= Tm.ts) (d:jl ((s.take 60).drop 4)= false):zF 103 #[.string (Om.B s)] w (jQ s w):=by
 have A:(((Om.B s).size:Int) != 64)= false:=by rw [bne_eq_false_iff_eq,Om.aG];omega
 have m:=λw1=>fS s w1 (by omega) (by omega);have a:(s.take 60).length= 60:=by rw [E4];omega
 rw [l,h]at m;have E:=hT (LX s h l j d);obtain ⟨b,n⟩:=eX1 (s.take 60);have f:∀w1,zF 155 #[.string (Om.B s)] w1 λe w'=>e= zV (.string (Om.B b)) (zI 0)/\zB w1 w':=λw1=>by rw [n];exact (m w1).mono λe w' h=>h
 rw [<-n]at j d a;have C:=hT f;have M:=hT (λw1=>lA b Tm.ts w1 (by rw [a];decide) j);have c:Om.B Tm.ts= ⟨#[79,65,75,83]⟩:=rfl;rw [c,show b.drop Tm.ts.length= b.drop 4 from rfl]at M;obtain ⟨q,k⟩:=eX1 (b.drop 4);have z:q.length= 56:=by rw [k,IV,a]
 rw [<-k]at M d;have R:=hT (λw1=>AE q w1 (by omega) (by omega));rw [d]at R;rw [uI,show Sv 0 0 0 0= .agg #[zI 0,zI 0,zI 0,zU 0]from rfl]at R;obtain ⟨D,i⟩:=eX2 (w.alloc (hV #[zI 0,zI 0,zI 0,zU 0] 68));obtain ⟨t,v,lt⟩:=kC w D i;have x:=hT t;have G:=hT v;have LT:=hT lt;clear h t v lt l m f j n c a d k;go_enter func103,ntmps103;go_wp2_with fail;clear i;refine zg (C.out _) λw1 hb1=>?_;have I:=hT hb1;clear hb1;go_wp2_with fail;refine zh (M.out _) ?_;go_wp2_with fail;refine zg (R.out _) λw3 hb3=>?_;have H:=zT I hb3;clear hb3;have g:zB w3 (w3.alloc (hV #[zI 0,zI 0,zI 0,zU 0] 68)):=zA;have y:=zT H g;have o:=(y.out.block _ LT.out).trans G.out;have F:=hT o;have r:=hT (x.out.trans (y.out.mono x.out.size));obtain ⟨O,N,L,K,J⟩:=kD o;clear g o;go_wp2;refine bodyPost_ret (gH (p:=2) (u:=3) rfl _ _ w.heap.size _ _ _ _ _ rfl rfl (dc F.out _ _ _ _)) rfl ?_;exact qS s w _ 32 E.out (dd r.out (nm _) _ _ _ _)
theorem Mc (s:zL) (w:World) (h:s.length= 64) (x:Cm.aN s) (n:(s.take 60).take 4= Tm.ts) (d:jl ((s.take 60).drop 4)):zF 103 #[.string (Om.B s)] w (jQ s w):=by
 have J:(((Om.B s).size:Int) != 64)= false:=by rw [bne_eq_false_iff_eq,Om.aG];omega
 have y:=λw1=>fS s w1 (by omega) (by omega);have a:(s.take 60).length= 60:=by rw [E4];omega
 rw [x,h]at y;have o:=hT (LY s h x n d);obtain ⟨b,z⟩:=eX1 (s.take 60);have k:∀w1,zF 155 #[.string (Om.B s)] w1 λe w'=>e= zV (.string (Om.B b)) (zI 0)/\zB w1 w':=λw1=>by rw [z];exact (y w1).mono λe w' h=>h
 rw [<-z]at n d o a;have C:=hT k;have M:=hT (λw1=>lA b Tm.ts w1 (by rw [a];decide) n);have c:Om.B Tm.ts= ⟨#[79,65,75,83]⟩:=rfl;rw [c,show b.drop Tm.ts.length= b.drop 4 from rfl]at M;obtain ⟨q,v⟩:=eX1 (b.drop 4);have I:q.length= 56:=by rw [v,IV,a]
 rw [<-v]at M d o;have R:=hT (λw1=>AE q w1 (by omega) (by omega));rw [d]at R;rw [AA]at R;obtain ⟨n0,j⟩:=eX1 (Om.at_ q Tm.zs 0);obtain ⟨n1,i⟩:=eX1 (Om.at_ q Tm.zs 1);obtain ⟨t,g⟩:=eX1 (Om.at_ q Tm.zs 2);obtain ⟨r,f⟩:=eX1 (Om.at_ q Tm.zs 3);rw [<-j,<-i,<-g,<-f]at R o;unfold Sv at R;obtain ⟨K,m⟩:=eX2 (w.alloc (hV #[zI 0,zI 0,zI 0,zU 0] 68));obtain ⟨E,F,lt⟩:=kC w K m;have G:=hT E;have N:=hT F;have LT:=hT lt;clear h E F lt x y k n z c a d v j i g f;go_enter func103,ntmps103;go_wp2_with fail;clear m;refine zg (C.out _) λw1 hb1=>?_;have P:=hT hb1;clear hb1;go_wp2_with fail;refine zh (M.out _) ?_;go_wp2_with fail;refine zg (R.out _) λw3 hb3=>?_;have O:=zT P hb3;clear hb3;have l:zB w3 (w3.alloc (hV #[zI n0,zI n1,zI t,zU r] 68)):=zA;have H:=zT O l;have A:=(H.out.block _ LT.out).trans N.out;have L:=hT A;have D:=hT (G.out.trans (H.out.mono G.out.size));obtain ⟨V,U,T,S,Q⟩:=kD A;obtain ⟨_,W,b1,b2,b3⟩:=Aw w3 n0 n1 t r 68;clear l A;go_wp2;refine bodyPost_ret (gH (p:=2) (u:=3) rfl _ _ w.heap.size _ _ _ _ _ rfl rfl (dc L.out _ _ _ _)) rfl ?_;exact LW s w _ n0 n1 t r o.out (dd D.out (nm _) _ _ _ _)
theorem Md (s:zL) (w:World):zF 103 #[.string (Om.B s)] w (jQ s w):=by
 by_cases h:s.length= 64;· cases hg:Cm.aN s with
  | false=>exact L_ s w h hg
  | true =>
  by_cases a:(s.take 60).take 4= Tm.ts;· cases hr:jl ((s.take 60).drop 4) with
   | false=>exact Mb s w h hg a hr
   | true=>exact Mc s w h hg a hr
  ·exact Ma s w h hg a
 ·exact LZ s w h
theorem qT (t a n:Int) (g:Nat) (w:World) (b:g<4294967296) (h:Tm.bp t a n g): zF 144 #[Sv t a n g] w λe w'=>e= zV (.string (Om.B (Tm.ah t a n g))) (zI 0)/\zB w w':=by have c:=Tm.jK h;have:=LP t a n g w (by omega) b;rw [(Tm.eI h).1,(Tm.eI h).2]at this;exact this
end
section
open Go.RowKit
theorem BF (a n g:Int) (w:World):zF 9 #[Uv a n g] w (zJ (.bool (Um.aj a n g)) w):=by
 unfold Uv;have f:Hid (zB w (w.alloc (zK a n g 23))):=zA;by_cases d:1<=n;·
  have d0:decide (1<=n):=by simpa using d
  by_cases h1:n<=1048576;·
   have d1:decide (n<=1048576):=by simpa using h1
   by_cases e:1<=g;·
    have d2:decide (1<=g):=by simpa using e
    by_cases h:g<=128;·
     have d3:decide (g<=128):=by simpa using h
     by_cases i:a<=1048576;·
      have j:decide (a<=1048576):=by simpa using i
      have k:lg.wrap (n+17)= n+17:=rr _ (by omega);have b:Um.aj a n g= decide (n+17<=a):=by unfold Um.aj Em.aM;rw [d0,d1,d2,d3,j];simp
      have c:=hT b;clear b d h1 e h i;go_enter func9,ntmps9;go_wp2_with fail;go_ret;exact ⟨by rw [c.out];rfl,f.out⟩
     ·have j:decide (a<=1048576)= false:=by simpa using i
      have b:Um.aj a n g= false:=by unfold Um.aj Em.aM;rw [j];simp
      have c:=hT b;clear b d h1 e h i;go_enter func9,ntmps9;go_wp2_with fail;go_ret;exact ⟨by rw [c.out];rfl,f.out⟩
    ·have d3:decide (g<=128)= false:=by simpa using h
     have b:Um.aj a n g= false:=by unfold Um.aj Em.aM;rw [d3];simp
     have c:=hT b;clear b d h1 e h;go_enter func9,ntmps9;go_wp2_with fail;go_ret;exact ⟨by rw [c.out];rfl,f.out⟩
   ·have d2:decide (1<=g)= false:=by simpa using e
    have b:Um.aj a n g= false:=by unfold Um.aj Em.aM;rw [d2];simp
    have c:=hT b;clear b d h1 e;go_enter func9,ntmps9;go_wp2_with fail;go_ret;exact ⟨by rw [c.out];rfl,f.out⟩
  ·have d1:decide (n<=1048576)= false:=by simpa using h1
   have b:Um.aj a n g= false:=by unfold Um.aj Em.aM;rw [d1];simp
   have c:=hT b;clear b d h1;go_enter func9,ntmps9;go_wp2_with fail;go_ret;exact ⟨by rw [c.out];rfl,f.out⟩
 ·have d0:decide (1<=n)= false:=by simpa using d
  have b:Um.aj a n g= false:=by unfold Um.aj Em.aM;rw [d0];simp
  have c:=hT b;clear b d;go_enter func9,ntmps9;go_wp2_with fail;go_ret;exact ⟨by rw [c.out];rfl,f.out⟩
end
section
open Go.RowKit
theorem Cc (P a b c d e f g:Value):#[P] ++ (((((((Array.replicate 10 undef).setIfInBounds 3 d).setIfInBounds 4 e).setIfInBounds 2 c).setIfInBounds 5 f).setIfInBounds 6 g).setIfInBounds 0 a).setIfInBounds 1 b= #[P,a,b,c,d,e,f,g,undef,undef,undef]:=by kernel_rfl
theorem QH (p:Addr) (x y:Int) (older:List PanicEntry) (w:World) (d:w.cell? p= some (zI y)) (b:w.frozen? p= false) (hp:p.block<w.heap.size): CallsD prog 151 #[.pointer (some p)] (.panicking ({v:= .iface 200 (.agg #[zI x]),recovered:=false} :: older)) w λe u' w'=> e= nf (CE #[])/\u'= (.panicking ({v:= .iface 200 (.agg #[zI x]),recovered:=true} :: older))/\w'= (w.alloc (hV #[zI x] 200)).setCell p (zI x):=by have h1:=λw=>JJ x w;have c:(w.alloc (hV #[zI x] 200)).cell? p= some (zI y):=(((zA).cell hp)).trans d;have a:(w.alloc (hV #[zI x] 200)).frozen? p= false:=(((zA).frozen hp)).trans b;refine callsD_of_wpS func151 rfl λc₀ cs hu=>?_;apply wpS_seq;apply wpS_region;simp [wpOpsS,go_sem,recoverD,hu,ntmps151,Exit.thenS,h1,Oper.upon,Ty];rw [Cc];refine wpS_of_wp ?_;go_wp2;simp [bodyPostS,results,results151]
theorem ov (p:Addr) (w:World): CallsD prog 151 #[.pointer (some p)] .returning w λe u' w'=> e= nf (CE #[])/\u'= .returning/\w'= w.alloc (hV #[zI 0] 200):=by have h1:=λw=>JK w;refine callsD_of_wpS func151 rfl λc₀ cs hu=>?_;apply wpS_seq;apply wpS_region;simp [wpOpsS,go_sem,recoverD,hu,ntmps151,Exit.thenS,h1,Oper.upon,Ty];rw [Cc];refine wpS_of_wp ?_;go_wp2;cases c₀;simp_all [bodyPostS,results,results151]
def oW (s:zL):Value:=Uv (Um.bN s) (Um.bO s) (Um.aH s)
def rN (s:zL) (w:World) (e:Ending) (w':World):Prop:=e= zV (oW s) (zI (Um.av s))/\zB w w'
theorem Cd {fn:Func} {p u:Tmp} (h:fn.results= #[.cell p 23, .cell u 38]) (tmps:Array Value) (w:World) (g k:Nat) (x0 x1 x2 v:Value) (hp:tmps.getD p undef= zP g) (hu:tmps.getD u undef= zP k) (c:w.heap[g]?= some (hV #[x0,x1,x2] 23 (0,0))) (hk:w.cell? (zD k 0)= some v): (results fn tmps).run prog w= .ok (CE #[.agg #[x0,x1,x2],v]) w:=by
 have b:tmps[p]?.getD undef= zP g:=by simpa using hp
 have a:tmps[u]?.getD undef= zP k:=by simpa using hu
 have c0:w.cell? (zD g 0)= some x0:=zW c;have c1:w.cell? (zD g 1)= some x1:=zW c;have c2:w.cell? (zD g 2)= some x2:=zW c;simp [results,h,b,a,asAddr,Ty,go_sem,c0,c1,c2,hk]
theorem Ce (w W0:World) (h:(w.alloc (zK 0 0 0 23)).alloc (hV #[zI 0] 38)= W0): zB w W0/\W0.heap[w.heap.size]?= some (hV #[zI 0,zI 0,zI 0] 23 (0,0))/\W0.heap[w.heap.size+1]?= some (hV #[zI 0] 38 (0,0))/\W0.heap.size= w.heap.size+2:=by
 subst h;have h1:=heap_alloc_new w (zK 0 0 0 23);have a:=heap_alloc_new (w.alloc (zK 0 0 0 23)) (hV #[zI 0] 38);have b:(w.alloc (zK 0 0 0 23)).heap.size= w.heap.size+1:=by simp
 rw [b]at a;have c:Below (w.heap.size+1) (w.alloc (zK 0 0 0 23)) ((w.alloc (zK 0 0 0 23)).alloc (hV #[zI 0] 38)):=zR.alloc (by simp) _;exact ⟨(zA).alloc (by simp) _,(c.block _ (by omega)).trans h1,a,by simp⟩
theorem QI (s:zL) (w:World) (x:Int) (b:Um.av s= x) (l:x≠0):zF 96 #[.string (Om.B s)] w (rN s w):=by
 have n:∀w1,zF 152 #[.string (Om.B s)] w1 λe w'=>e= gG x/\zB w1 w':=λw1=> (zc s w1).mono λe w' ⟨h1,h2⟩=>⟨by rcases h1 with h1|h1;exact absurd (b.symm.trans h1.1) l;rw [h1.2,b],h2⟩;have r:=hT n;unfold gG at r;have m:=hT (Um.gx s (by rw [b];exact l));have E:=hT b;obtain ⟨C,h⟩:=eX2 ((w.alloc (zK 0 0 0 23)).alloc (hV #[zI 0] 38));obtain ⟨o,g,d,c⟩:=Ce w C h;have F:=hT o;have S0:=hT g;have D:=hT d;have q:=hT c;clear n b l o g d c;go_enter_defers func96,ntmps96;go_wp2_with fail;clear h;refine zg (r.out _) λw1 hb=>?_;have z:=(hb.block w.heap.size (by rw [q.out];omega)).trans S0.out;have s1:=(hb.block (w.heap.size+1) (by rw [q.out];omega)).trans D.out;have k:=zH F hb;have i:=(DN.1 s1).1;have c1:w1.cell? (zD (w.heap.size+1) 0)= some (zI 0):=zW s1;have f1:=frozen_of_row (j:=0) _ _ _ _ s1;clear hb;go_wp2;refine leaves_cons (f:=151) (args:=#[zP (w.heap.size+1)]) (by simp) (by simp [go_sem]) ?_;refine (QH ⟨w.heap.size+1,0,none⟩ x 0 [] _ c1 f1 i).mono ?_;rintro e G t ⟨rfl,rfl,rfl⟩;have a:Below (w.heap.size+2) w1 (w1.alloc (hV #[zI x] 200)):=zR.alloc (by omega) _;have y:=(heap_setCell_other _ ⟨w.heap.size+1,0,none⟩ w.heap.size (zI x) (by show w.heap.size≠w.heap.size+1;omega)).trans ((a.block w.heap.size (by omega)).trans z);have v:=heap_setCell_same _ (w.heap.size+1) 0 _ _ (zI x) ((a.block (w.heap.size+1) (by omega)).trans s1);have A:((w1.alloc (hV #[zI x] 200)).setCell ⟨w.heap.size+1,0,none⟩ (zI x)).cell? (zD (w.heap.size+1) 0)= some (zI x):=zW v;refine ⟨_,Cd (p:=2) (u:=3) rfl _ _ w.heap.size (w.heap.size+1) _ _ _ _ rfl rfl y A,?_,?_⟩;· unfold oW;rw [E.out,m.out.1,m.out.2.1,m.out.2.2];rfl
 ·exact (k.trans (a.mono (by omega))).setCell (p:=(zD (w.heap.size+1) 0)) (by show _<=w.heap.size+1;omega) _
theorem QJ (s:zL) (w:World) (m:Um.av s= 0):zF 96 #[.string (Om.B s)] w (rN s w):=by
 obtain ⟨a,r⟩:=eX1 (Um.bN s:Int);obtain ⟨n,o⟩:=eX1 (Um.bO s:Int);obtain ⟨g,q⟩:=eX1 (Um.aH s:Int);have A:∀w1,zF 152 #[.string (Om.B s)] w1 λe w'=>e= nf (Uv a n g)/\zB w1 w':=λw1=> (zc s w1).mono λe w' ⟨h1,h2⟩=>⟨by rcases h1 with h1|h1;rw [h1.2,r,o,q];exact absurd m h1.1,h2⟩;have E:=hT A;have x:=hT (show oW s= Uv a n g/\Um.av s= 0 from ⟨by unfold oW;rw [r,o,q],m⟩);unfold Uv at E x;obtain ⟨J,i⟩:=eX2 ((w.alloc (zK 0 0 0 23)).alloc (hV #[zI 0] 38));obtain ⟨C,h,d,c⟩:=Ce w J i;have N:=hT C;have S0:=hT h;have K:=hT d;have D:=hT c;clear A m C h d c r o q;go_enter_defers func96,ntmps96;go_wp2_with fail;clear i;refine zg (E.out _) λw1 hb=>?_;have l:=(hb.block w.heap.size (by rw [D.out];omega)).trans S0.out;have s1:=(hb.block (w.heap.size+1) (by rw [D.out];omega)).trans K.out;have M:=hT l;have L:=hT s1;have y:=zT N hb;have c1:w1.cell? (zD (w.heap.size+1) 0)= some (zI 0):=zW s1;have f1:=frozen_of_row (j:=0) _ _ _ _ s1;obtain ⟨R,Q,P,O⟩:=y_ l;clear hb l s1;go_wp2;have z:=(heap_setCell_other _ ⟨w.heap.size+1,0,none⟩ w.heap.size (zI 0) (by show w.heap.size≠w.heap.size+1;omega)).trans (lq M.out (zI a) (zI n) (zI g));have H:=((heap_setCell_other _ ⟨w.heap.size,2,none⟩ (w.heap.size+1) (zI g) (by show w.heap.size+1≠w.heap.size;omega)).trans ((heap_setCell_other _ ⟨w.heap.size,1,none⟩ (w.heap.size+1) (zI n) (by show w.heap.size+1≠w.heap.size;omega)).trans ((heap_setCell_other _ ⟨w.heap.size,0,none⟩ (w.heap.size+1) (zI a) (by show w.heap.size+1≠w.heap.size;omega)).trans L.out)));have k:=heap_setCell_same _ (w.heap.size+1) 0 _ _ (zI 0) H;have F:=(km y.out (nm _) (zI a) (zI n) (zI g)).setCell (p:=(zD (w.heap.size+1) 0)) (by show _<=w.heap.size+1;omega) (zI 0);obtain ⟨v,t⟩:=eX2 ((((w1.setCell ⟨w.heap.size,0,none⟩ (zI a)).setCell ⟨w.heap.size,1,none⟩ (zI n)).setCell ⟨w.heap.size,2,none⟩ (zI g)).setCell ⟨w.heap.size+1,0,none⟩ (zI 0));rw [t]at z k F⊢;have T:=(DN.1 k).1;refine leaves_cons (f:=151) (args:=#[zP (w.heap.size+1)]) (by simp) (by simp [go_sem]) ?_;refine (ov ⟨w.heap.size+1,0,none⟩ _).mono ?_;rintro e S G ⟨rfl,rfl,rfl⟩;have b:Below (w.heap.size+2) v (v.alloc (hV #[zI 0] 200)):=zR.alloc (by omega) _;have I:(v.alloc (hV #[zI 0] 200)).cell? (zD (w.heap.size+1) 0)= some (zI 0):=by rw [cell_of_row _ _ _ _ _ _ ((b.block (w.heap.size+1) (by omega)).trans k)];rfl
 refine ⟨_,Cd (p:=2) (u:=3) rfl _ _ w.heap.size (w.heap.size+1) _ _ _ _ rfl rfl ((b.block w.heap.size (by omega)).trans z) I,?_,?_⟩;· rw [x.out.1,x.out.2]
 ·exact F.trans (b.mono (by omega))
theorem QK (s:zL) (w:World):zF 96 #[.string (Om.B s)] w (rN s w):=by
 by_cases h:Um.av s= 0;· exact QJ s w h
 ·exact QI s w _ rfl h
theorem QM (a n g:Int) (w:World) (h:Um.aj a n g): zF 94 #[Uv a n g] w λe w'=>e= zV (.string (Om.B (Um.ah a n g))) (zI 0)/\zB w w':=by have:=JR a n g w;rw [(Um.eI h).1,(Um.eI h).2]at this;exact this
end
end Go.Proofs.YtchihokmgmchcaaGreat
