/- Sna2, of the proof -/
import Derived.Test.YtchihokmgmchcaaGreatSrSne1
import Derived.Test.YtchihokmgmchcaaGreatSq0K
set_option linter.unusedVariables false
set_option maxRecDepth 100000
set_option maxHeartbeats 4000000
namespace Go.Proofs.YtchihokmgmchcaaGreat
open Go.Proofs.Tryz
open Go.Ending renaming returned->nf
open Go.Lib renaming hid->hT,intOf->wo
open Nat renaming le_trans->A6,lt_of_lt_of_le->ti,zero_le->yb
open Go.World renaming ownsRow_nil->Ts
open Go.IntKind renaming i64->lg
open Go.IntWalk renaming i64_in->rr
open Int renaming tdiv_eq_ediv_of_nonneg->Uk,tmod_eq_emod_of_nonneg->Vx,toNat_natCast->GH
open Go.RowKit.Below renaming refl->G3
open Bool renaming and_eq_true->N6
open Go.Value renaming slice->AF
open List renaming drop_succ_cons->U0,drop_zero->TA,ext_getElem?->Vg,getD_eq_getElem?_getD->FU,getElem?_eq_getElem->C1,getElem?_eq_none->Tv,getElem?_set_ne->PF,getElem?_set_self->UG,length_replicate->Tq,length_set->TB,replicate->vw,take_succ_cons->UZ,take_zero->Tj
open Go.Obj renaming cells->hV
open _root_.Array renaming getElem?_eq_some_iff->DN
open _root_.ByteArray renaming size_extract->Vu
section
namespace Sn
open Go.RowKit Go.Proofs.YtchihokmgmchcaaGreat.Xm
variable{w:World}{e:Eb}{E:En}
theorem BH (h:Ek w e E): zF 63 #[zP e.q] w λr w'=>∃p c,r= nf (.slice p (aR E 16).length c)/\bd w' p (aR E 16)/\zB w w':=by
 obtain ⟨L,hi,z,y,x⟩:=info_parts rb;have H:=hT h;clear h;go_enter func63,ntmps63;go_wp2_with fail;go_loopw [4,3] (λi s wr=>∃(k n:Nat) (v:Value),i= zI k/\s= v/\k<=16/\Hid (n= (aR E k).length)/\Hid (wr.ownsRow w.heap.size 65 2 v n (cells (aR E k)))/\Hid (zB w wr)) (λi _ _=>16 - (wo i).toNat);case atStart=>exact ⟨0,0,_,rfl,rfl,yb _,hT rfl,hT (Ts _ _ _ _),hT zR⟩
 case round=>
  obtain ⟨k,n,v,rfl,rfl,hk,u,b,hw⟩:=hrel;by_cases B:k<16;·
   have d1:decide ((k:Int) <16):=by simp;omega
   have C:decide (k<16):=by simp;omega
   have Q:(k:Int) <16:=by omega
   have M:lg.wrap ((k:Int) +1)= ((k+1:Nat):Int):=by rw [rr _ (by omega)];rfl
   have o:=hT (mV E k);have O:=hT (re E k);obtain ⟨c0,c1,c2, -, -, -, -⟩:=(H.out.below hw.out).at B;generalize (E.one k).s= s at c0 o;generalize (E.one k).a= x1 at c1 o;generalize (E.one k).n= x2 at c2 o;by_cases g:s= 0;·
    have d2:(s != 0)= false:=by simpa using g
    have t:Hid (aR E (k+1)= aR E k):=hT (by rw [o.out,if_neg (λc=>c g)]);clear g;go_wp2_with fail;go_roundw;case rel=>exact ⟨k+1,n,_,by go_num,rfl,by omega,by rw [t.out];exact u,by rw [t.out];exact b,hw⟩
    case measure=>simp [wo];omega
   ·have d2:(s != 0):=by simpa using g
    have t:Hid (aR E (k+1)= aR E k ++ [(x1,x2)]):=hT (by rw [o.out,if_pos g]);obtain ⟨pa,pc,rfl⟩:=Se.Bj b.out;have I:n<=16:=by have:=O.out;have:=u.out;omega
    have N:=hT λr hr=>Se.oR b.out r hr;clear g;have A:=hw.out.size;go_wp2_with (at_builtin;refine wpList_append_own _ rfl _ _ 121 rfl w.heap.size 65 L _ 2 16 underlying121 hi z y x rfl (by decide) (.slice pa n pc) n (cells (aR E k)) rfl (b.out.alloc _) ⟨wr.heap.size,0,none⟩ 1 1 [zI x1,zI x2] rfl rfl (World.news_of_block (cs:=#[zI x1,zI x2]) (heap_alloc_new wr _)) (by simp [Value.oneCell']) (by unfold maxLen;omega) (by omega) (by simp;omega) ?_);intro K w3 f d m;have F:Hid (w3.ownsRow w.heap.size 65 2 K (n+1) (cells (aR E (k+1)))):=hT (by rw [t.out,mU,cells_one];exact f);have D:Hid (n+1= (aR E (k+1)).length):=hT (by rw [t.out,List.length_append,List.length_singleton,<-u.out]);have G:=hT ((hw.out.alloc A _).grown d (by simp;omega) (λj e=>N.out j e));clear f d m;go_wp2_with fail;go_roundw;case rel=>exact ⟨k+1,n+1,_,by go_num,rfl,by omega,D,F,G⟩
    case measure=>simp [wo];omega
  ·have d1:decide ((k:Int) <16)= false:=by simp;omega
   have C:decide (k<16)= false:=by simp;omega
   have e:k= 16:=by omega
   subst e;obtain ⟨p,c,rfl,J⟩:=bd.own (l:=aR E 16) (by rw [<-u.out];exact b.out);have P:=hT J;clear J;go_wp2_with fail;go_ret;exact ⟨_,_,rfl,P.out,hw.out⟩
def En.free (E:En):Int:=Xm.jr (17+ (E.n:Int)) ((E.a:Int) - (17+ (E.n:Int))) (aR E 16)
theorem Px (h:Ek w e E) (hu:Um.aj (E.a:Int) (E.n:Int) (E.g:Int)) (hi:Xm.In (aR E 16) (aR E 16).length): zF 35 #[zP e.q] w λr w'=>r= nf (zI E.free)/\zB w w':=by obtain ⟨c0,c1,c2, -⟩:=h.low;have ST:=hT (λw1=>BE (E.a:Int) (E.n:Int) (E.g:Int) w1 hu);have m:=hT (λw1 (b:zB w w1)=>BH (h.below b));have d:=hT (λp c w1 f=>Xm.Pv (17+ (E.n:Int)) ((E.a:Int) - (17+ (E.n:Int))) hi p c w1 f);unfold En.free;generalize aR E 16= u at m d hi⊢;generalize Xm.jr (17+ (E.n:Int)) ((E.a:Int) - (17+ (E.n:Int))) u= R at d⊢;generalize (17+ (E.n:Int))= X at ST d;generalize ((E.a:Int) - X)= Y at ST d;clear h hu hi;go_enter func35,ntmps35;go_wp2_with fail;refine zg (ST.out _) λw1 b=>?_;have i:=hT (m.out w1 b);have o:=hT b;clear b;go_wp2_with fail;refine i.out.mono ?_;rintro r w2 ⟨p,c,rfl,f,b⟩;have k:=zT o b;have l:=hT (d.out p c w2 f);clear b f;go_wp2_with fail;refine zg l.out λw3 b=>?_;have j:=zT k b;clear b;go_wp2_with fail;go_ret;exact ⟨rfl,j.out⟩
def En.dH (E:En) (c:Int):Int:=Geo.refuse (E.n:Int) (E.g:Int) c 1 1048576
def En.bC (E:En) (c:Int):Int:=if E.dH c= 0 then ((Em.size E.g c.toNat:Nat):Int) else 0
theorem Py (n g:Nat) (c:Int) (w:World) (a:Em.aM (n:Int) (g:Int)): zF 60 #[zI n,zI g,zI c] w λr w'=>r= zV (zI (if Geo.refuse (n:Int) (g:Int) c 1 1048576= 0 then ((Em.size g c.toNat:Nat):Int) else 0)) (zI (Geo.refuse (n:Int) (g:Int) c 1 1048576))/\w= w':=by
 have b:=Geo.lL (n:Int) (g:Int) w;rw [a]at b;have b:=hT b;obtain ⟨_,_,g1,g2⟩:=(Em.cM _ _).1 a;by_cases i:c<1\/1048576<c;·
  rw [Geo.lP a i,if_neg (by decide)];have key:∀f e:Bool,decide (c<1)= f->decide (1048576<c)= e->(f= true\/e= true)->zF 60 #[zI n,zI g,zI c] w λr w'=>r= zV (zI 0) (zI 2)/\w= w':=by intro f e d1 d2 l;clear a i g1 g2;cases f with
   | true => clear l;go_enter func60,ntmps60;go_wp2_with fail;refine zh b.out ?_;go_wp2_with fail;go_ret2;exact ⟨rfl,rfl⟩
   | false =>
   obtain rfl:e= true:=by simpa using l
   clear l;go_enter func60,ntmps60;go_wp2_with fail;refine zh b.out ?_;go_wp2_with fail;go_ret2;exact ⟨rfl,rfl⟩
  refine key _ _ rfl rfl (i.imp (λh=>by simpa using h) λh=>by simpa using h)
 ·obtain ⟨k,rfl⟩:∃k:Nat,c= (k:Int):=⟨c.toNat,by omega⟩;rw [Geo.jY a (by omega) (by omega),if_pos rfl,GH];have p:=hT (So.Pw k w (by omega));have d:Tb.a_ k<=1048576:=by unfold Tb.a_;omega
  have hm:k*g<=134217728:=by have:k*g<=1048576*128:=Nat.mul_le_mul (by omega) (by omega);omega
  obtain ⟨M,j⟩:=eX1 (k*g);obtain ⟨P,m⟩:=eX1 (Tb.a_ k);have o:Em.size g k= 1+P+M:=by unfold Em.size;rw [j,m,So.nJ]
  have u:(k:Int) * (g:Int)= (M:Int):=by rw [j];simp
  rw [o];rw [<-m]at p d;rw [<-j]at hm;have d1:decide ((k:Int) <1)= false:=by simp;omega
  have d2:decide (1048576< (k:Int))= false:=by simp;omega
  have t:lg.wrap (1+ (P:Int))= 1+ (P:Int):=by rw [rr _ (by omega)]
  have s:lg.wrap ((M:Nat):Int)= (M:Int):=by rw [rr _ (by omega)]
  have q:lg.wrap (1+ (P:Int) + (M:Int))= 1+ (P:Int) + (M:Int):=by rw [rr _ (by omega)]
  have v:Hid ((1:Int) + (P:Int) + (M:Int)= ((1+P+M:Nat):Int)):=hT (by omega);clear a i g1 g2 j m o hm d;go_enter func60,ntmps60;go_wp2_with fail;refine zh b.out ?_;go_wp2_with fail;refine zh p.out ?_;go_wp2_with fail;go_ret2;exact ⟨by rw [<-v.out];rfl,rfl⟩
open Go.RowKit
theorem Pz : zF 67 #[zP e.q,zI 0] w λr w'=>r= nf (zI (E.usable 0))/\zB w w':=by have a:Hid (E.usable 0= 0):=hT (by unfold En.usable;rw [if_pos rfl]);generalize E.usable 0= T at a;go_enter func67,ntmps67;go_wp2_with fail;go_ret;exact ⟨by rw [a.out];rfl,G3 _ _⟩
theorem PA (h:Ek w e E) (id:Int) (d:id≠0): zF 67 #[zP e.q,zI id] w λr w'=>r= nf (zI (E.usable id))/\zB w w':=by
 have H:=hT h;have R:=hT (mZ h id);have g:Hid (E.usable id= if E.there id= true then (if (E.al:Int)= id then 163 else if (E.one (id - 1).toNat).inv= true then 162 else 0) else 161):=hT (by unfold En.usable;rw [if_neg d]);generalize E.usable id= T at g;have d0:(id == 0)= false:=by simpa using d
 clear h d;go_enter func67,ntmps67;go_wp2_with fail;refine zg R.out λw1 hb=>?_;have j:=hT hb;cases ht:E.there id with
  | false => have f:Hid (T= 161):=hT (by rw [g.out,ht];rfl);clear hb ht;go_wp2_with fail;go_ret;exact ⟨by rw [f.out];rfl,j.out⟩
  | true =>
  have o:=hT (lK (H.out.below hb));have f:Hid (T= if (E.al:Int)= id then 163 else if (E.one (id - 1).toNat).inv= true then 162 else 0):=hT (by rw [g.out,if_pos ht]);have p:=hT ht;clear hb ht;go_wp2_with fail;refine zg o.out λw2 hb2=>?_;have c:=zT j hb2;obtain ⟨k,hk,i⟩:∃k:Nat,k<16/\Hid (id= (k:Int) +1):=by have:=p.out;unfold En.there at this;rw [N6,N6,decide_eq_true_eq,decide_eq_true_eq]at this;exact ⟨(id - 1).toNat,by omega,hT (by omega)⟩
  have l:lg.wrap (id - 1)= (k:Int):=by have:=i.out;rw [rr _ (by omega)];omega
  obtain ⟨-, -, -, -, -, -,n⟩:=(H.out.below c.out).at hk;have b:Hid (T= if (E.al:Int)= id then 163 else if (E.one k).inv= true then 162 else 0):=hT (by rw [f.out,show (id - 1).toNat= k by have:=i.out;omega]);generalize (E.one k).inv= v at n b;generalize E.al= m at b;clear hb2;by_cases hm:(m:Int)= id;·
   have d3:((m:Int) == id):=by simpa using hm
   have a:Hid (T= 163):=hT (by rw [b.out,if_pos hm]);clear hm;go_wp2_with fail;go_ret;exact ⟨by rw [a.out];rfl,c.out⟩
  ·have d3:((m:Int) == id)= false:=by simpa using hm
   cases v with
    | true => have a:Hid (T= 162):=hT (by rw [b.out,if_neg hm,if_pos rfl]);clear hm;go_wp2_with fail;go_ret;exact ⟨by rw [a.out];rfl,c.out⟩
    | false => have a:Hid (T= 0):=hT (by rw [b.out,if_neg hm,if_neg (by decide)]);clear hm;go_wp2_with fail;go_ret;exact ⟨by rw [a.out];rfl,c.out⟩
theorem kI (h:Ek w e E) (id:Int): zF 67 #[zP e.q,zI id] w λr w'=>r= nf (zI (E.usable id))/\zB w w':=by
 by_cases a:id= 0;· subst a;exact Pz
 ·exact PA h id a
open Go.RowKit
def js (w:World) (q k:Nat) (x:One) (tv:Value):World:= ((((((w.setCell ⟨q,4+k*7,none⟩ (zI x.s)).setCell ⟨q,4+k*7+1,none⟩ (zI x.a)).setCell ⟨q,4+k*7+2,none⟩ (zI x.n)).setCell ⟨q,4+k*7+3,none⟩ (zU x.gen)).setCell ⟨q,4+k*7+4,none⟩ (.string (Om.B x.b))).setCell ⟨q,4+k*7+5,none⟩ tv).setCell ⟨q,4+k*7+6,none⟩ (.bool x.inv)
theorem jE {P:Program} {id:Nat} {Q:Exit->Act->World->Prop} {a:Act} {l:List Oper} (n:Nat) (hm:P.follows .mixedOrders) (hB:Region.lexTailB .any l.toArray n) (h:∀w2,Hid (w2= w.drew)->wpStill P l.toArray w2 (λa'=>wpList P l.toArray Q (l.drop n) a' w2) (l.take n) a):(Code.region id l.toArray true).wp P Q a w:= wp_region_still_tail n hm hB (h w.drew (show _= _ from rfl))
theorem PB (h:Ek w e E) (id:Int) (f:E.there id) (hm:(E.al:Int)≠id): zF 23 #[zP e.q,zI id] w λr w'=>r= nf (zI 0)/\∃w3,zB w w3/\w'= js w3 e.q (id - 1).toNat (E.one (id - 1).toNat).gone (AF none 0 0):=by
 have H:=hT h;have R:=hT (mZ h id);have u:=hT f;clear h;go_enter func23,ntmps23;go_wp2_with fail;refine zg R.out λw1 hb=>?_;have x:=hT hb;have t:=hT (lK (H.out.below hb));rw [f];clear hb f;go_wp2_with fail;refine zg t.out λw2 hb2=>?_;have d:=zT x hb2;obtain ⟨k,hk,o⟩:∃k:Nat,k<16/\Hid (id= (k:Int) +1):=by have:=u.out;unfold En.there at this;rw [N6,N6,decide_eq_true_eq,decide_eq_true_eq]at this;exact ⟨(id - 1).toNat,by omega,hT (by omega)⟩
 have s:lg.wrap (id - 1)= (k:Int):=by have:=o.out;rw [rr _ (by omega)];omega
 obtain ⟨c0,c1,c2,c3,c4,c5,n⟩:=(H.out.below d.out).at hk;have b:∀j,w2.frozen? (zD e.q j)= false:=λj=>frozen_of_row (j:=j) _ _ _ _ (H.out.below d.out).head;obtain ⟨g,i⟩:=eX1 ((E.one k).gen);have v:=hT i;rw [<-i]at c3;clear i;generalize E.al= m at hm;have d3:((m:Int) == id)= false:=by simpa using hm
 clear hb2 hm;go_wp2_with fail;refine jE 17 (by kernel_rfl) (by kernel_rfl) ?_;intro w3 a;have c:∀p,w3.cell? p= w2.cell? p:=λp=>by rw [a.out];rfl
 have d0:=(c _).trans c0;have d1:=(c _).trans c1;have d2:=(c _).trans c2;have d3:=(c _).trans c3;have G:=(c _).trans c4;have F:=(c _).trans c5;have D:=(c _).trans n;have f0:w3.frozen? ⟨e.q,4+k*7,none⟩= false:=by rw [a.out];exact b _
 have f1:w3.frozen? ⟨e.q,4+k*7+1,none⟩= false:=by rw [a.out];exact b _
 have C:w3.frozen? ⟨e.q,4+k*7+2,none⟩= false:=by rw [a.out];exact b _
 have B:w3.frozen? ⟨e.q,4+k*7+3,none⟩= false:=by rw [a.out];exact b _
 have A:w3.frozen? ⟨e.q,4+k*7+4,none⟩= false:=by rw [a.out];exact b _
 have z:w3.frozen? ⟨e.q,4+k*7+5,none⟩= false:=by rw [a.out];exact b _
 have y:w3.frozen? ⟨e.q,4+k*7+6,none⟩= false:=by rw [a.out];exact b _
 have l:(k:Int) <16:=by omega
 clear c c0 c1 c2 c3 c4 c5 n b;simp only [UZ,Tj,U0,TA];repeat still_step
 refine wpStill_nil ?_;go_wp2_with fail;go_ret;refine ⟨rfl,w3,?_,?_⟩;· rw [a.out];exact d.out.drew
 ·rw [show (id - 1).toNat= k by have:=o.out;omega,v.out];rfl
def Eb.dR (e:Eb) (k:Nat) (tv:Value):Eb:={e with tv:=λi=>if i= k then tv else e.tv i}
def kJ (xs:List Value) (k:Nat) (x:One) (tv:Value):List Value:= ((((((xs.set (4+k*7) (zI x.s)).set (4+k*7+1) (zI x.a)).set (4+k*7+2) (zI x.n)).set (4+k*7+3) (zU x.gen)).set (4+k*7+4) (.string (Om.B x.b))).set (4+k*7+5) tv).set (4+k*7+6) (.bool x.inv)
theorem BI (xs:List Value) (k:Nat) (x:One) (tv:Value) (i:Nat) (h:i<4+k*7\/4+k*7+7<=i):(kJ xs k x tv)[i]?= xs[i]?:=by unfold kJ;rw [PF (by omega),PF (by omega),PF (by omega),PF (by omega),PF (by omega),PF (by omega),PF (by omega)]
theorem PD (xs:List Value) (k:Nat) (x:One) (tv:Value):(kJ xs k x tv).length= xs.length:=by simp [kJ]
theorem PE (xs:List Value) (k:Nat) (x:One) (tv:Value) (j:Nat) (a:j<7) (b:4+k*7+7<=xs.length):(kJ xs k x tv)[4+k*7+j]?= (fq x tv)[j]?:=by unfold kJ;match j,a with
 | 0,_=>rw [PF (by omega),PF (by omega),PF (by omega),PF (by omega),PF (by omega),PF (by omega),Nat.add_zero,UG (by omega)];rfl
 | 1,_=>rw [PF (by omega),PF (by omega),PF (by omega),PF (by omega),PF (by omega),UG (by simp;omega)];rfl
 | 2,_=>rw [PF (by omega),PF (by omega),PF (by omega),PF (by omega),UG (by simp;omega)];rfl
 | 3,_=>rw [PF (by omega),PF (by omega),PF (by omega),UG (by simp;omega)];rfl
 | 4,_=>rw [PF (by omega),PF (by omega),UG (by simp;omega)];rfl
 | 5,_=>rw [PF (by omega),UG (by simp;omega)];rfl
 | 6,_=>rw [UG (by simp;omega)];rfl
variable{k:Nat}
theorem PH (hk:k<16) (o:E.s.length= 16) (x:One) (tv:Value):kJ (e.cells E) k x tv= (e.dR k tv).cells (E.set k x):=by
 have f:=λj=>En.one_set (e:=E) (i:=k) (by omega) x j;apply Vg;intro i;by_cases m:i<4;· rw [BI _ _ _ _ _ (by omega),oM e E m,oM (e.dR k tv) (E.set k x) m];rfl
 ·by_cases n:i<116;·
   obtain ⟨a,b,l,g,rfl⟩:∃a b,a<16/\b<7/\i= 4+7*a+b:=⟨(i - 4) / 7,(i - 4) % 7,by omega,by omega,by omega⟩;obtain ⟨v,c⟩:∃v,(fq ((E.set k x).one a) ((e.dR k tv).tv a))[b]?= some v:=⟨_,C1 (by simpa [fq] using g)⟩;rw [kG (e:=e.dR k tv) (E:=E.set k x) l c];rw [f a]at c;by_cases d:a= k;· subst d;rw [if_pos rfl]at c;rw [show 4+7*a+b= 4+a*7+b by omega,PE _ _ _ _ _ g (by rw [gk];omega),<-c];show _= (fq x (if a= a then tv else e.tv a))[b]?;rw [if_pos rfl]
   ·rw [if_neg (λh=>d h.symm)]at c;have c:(fq (E.one a) (if a= k then tv else e.tv a))[b]?= some v:=c;rw [if_neg d]at c;rw [BI _ _ _ _ _ (by omega),kG l c]
  ·rw [Tv (by rw [PD,gk];omega),Tv (by rw [gk];omega)]
theorem PI {q:Nat} {xs:List Value} {t:TypeId} (h:w.heap[q]?= some (hV xs.toArray t (0,0))) (k:Nat) (x:One) (tv:Value):(js w q k x tv).heap[q]?= some (hV (kJ xs k x tv).toArray t (0,0)):=by
 have st:∀{w:World} {xs:List Value} (h:w.heap[q]?= some (hV xs.toArray t (0,0))) (i:Nat) (v:Value),(w.setCell ⟨q,i,none⟩ v).heap[q]?= some (hV (xs.set i v).toArray t (0,0)):=λh i v=>by rw [heap_setCell_same _ _ _ _ _ _ h];simp
 exact st (st (st (st (st (st (st h _ _) _ _) _ _) _ _) _ _) _ _) _ _
theorem BJ (w:World) (q k:Nat) (x:One) (tv:Value) {b:Nat} (a:b≠q):(js w q k x tv).heap[b]?= w.heap[b]?:=by unfold js;rw [heap_setCell_other _ _ _ _ a,heap_setCell_other _ _ _ _ a,heap_setCell_other _ _ _ _ a,heap_setCell_other _ _ _ _ a,heap_setCell_other _ _ _ _ a,heap_setCell_other _ _ _ _ a,heap_setCell_other _ _ _ _ a]
theorem Ek.put (h:Ek w e E) {k:Nat} (hk:k<16) (x:One) {tv:Value} (m:Tb.Ints w tv x.t) (l:tv.ownBlock≠some e.q) (g:∀i,i<16->i≠k->∀b,(e.tv i).ownBlock= some b->tv.ownBlock≠some b): Ek (js w e.q k x tv) (e.dR k tv) (E.set k x):=by
 have f:=λj=>En.one_set (e:=E) (i:=k) (by rw [h.len];exact hk) x j;refine ⟨?_,by simp [En.set,h.len],λi hi=>?_,λi hi=>?_,λi j hi hj hij b a=>?_⟩;· rw [<-PH hk h.len];exact PI h.head k x tv
 ·rw [f i];show Tb.Ints _ (if i= k then tv else e.tv i) _;by_cases c:i= k;· subst c;rw [if_pos rfl,if_pos rfl];exact ae.bc m λb a=>BJ _ _ _ _ _ λe'=>l (by rw [a,e'])
  ·rw [if_neg c,if_neg (λh=>c h.symm)];exact ae.bc (h.rows i hi) λb a=>BJ _ _ _ _ _ λe'=>h.own i hi (by rw [a,e'])
 ·show (if i= k then tv else e.tv i).ownBlock≠some e.q;by_cases c:i= k;· rw [if_pos c];exact l
  ·rw [if_neg c];exact h.own i hi
 ·have a:(if i= k then tv else e.tv i).ownBlock= some b:=a;show (if j= k then tv else e.tv j).ownBlock≠some b;by_cases c:i= k;· rw [if_pos c]at a;rw [if_neg (by omega)];exact λhj'=>g j hj (by omega) b hj' a
  ·rw [if_neg c]at a;by_cases d:j= k;· rw [if_pos d];exact g i hi c b a
   ·rw [if_neg d];exact h.ap i j hi hj hij b a
open Go.RowKit
variable{e':Eb}{v:Value}
theorem vl {E':En} {j:Nat} (hk:k<16) (u:j<7) (t:E'.a= E.a/\E'.n= E.n/\E'.g= E.g/\E'.b= E.b) (h:∀i,i<16->∀b,b<7->(fq (E'.one i) (e'.tv i))[b]?= if i= k/\b= j then some v else (fq (E.one i) (e.tv i))[b]?):(e.cells E).set (4+k*7+j) v= e'.cells E':=by
 obtain ⟨s,r,q,p⟩:=t;apply Vg;intro i;by_cases m:i<4;· rw [PF (by omega),oM e E m,oM e' E' m,s,r,q,p]
 ·by_cases o:i<116;·
   obtain ⟨a,b,f,l,rfl⟩:∃a b,a<16/\b<7/\i= 4+7*a+b:=⟨(i - 4) / 7,(i - 4) % 7,by omega,by omega,by omega⟩;obtain ⟨x,d⟩:∃x,(fq (E'.one a) (e'.tv a))[b]?= some x:=⟨_,C1 (by simpa [fq] using l)⟩;rw [kG (e:=e') (E:=E') f d];rw [h a f b l]at d;by_cases c:a= k/\b= j;· obtain ⟨rfl,rfl⟩:=c;rw [if_pos ⟨rfl,rfl⟩]at d;rw [show 4+7*a+b= 4+a*7+b by omega,UG (by rw [gk];omega),d]
   ·rw [if_neg c]at d;rw [PF (by omega),kG f d]
  ·rw [Tv (by rw [TB,gk];omega),Tv (by rw [gk];omega)]
theorem Ek.heap_set (h:Ek w e E) (o:Nat) (v:Value):(w.setCell ⟨e.q,o,none⟩ v).heap[e.q]?= some (hV ((e.cells E).set o v).toArray 74 (0,0)):=by rw [heap_setCell_same _ _ _ _ _ _ h.head];simp
theorem jt (a:E.s.length= 16) (hk:k<16) (x:One) (i:Nat):(E.set k x).one i= if k= i then x else E.one i:=En.one_set (by omega) x i
theorem Ek.ur (h:Ek w e E) {k:Nat} (hk:k<16) (v:Bool):Ek (w.setCell ⟨e.q,4+k*7+6,none⟩ (.bool v)) e (E.set k {E.one k with inv:=v}):=by
 have a:=jt h.len hk {E.one k with inv:=v};refine ⟨?_,by simp [En.set,h.len],λi hi=>?_,h.own,h.ap⟩;·
  rw [h.heap_set,vl (e:=e) (E:=E) (j:=6) (v:= .bool v) (e':=e) (E':=E.set k {E.one k with inv:=v}) hk (by decide) ⟨rfl,rfl,rfl,rfl⟩ λi hi b hb=>?_];rw [a i];by_cases c:k= i;· subst c;rw [if_pos rfl];match b,hb with
   | 0,_=>rw [if_neg (λhh=>absurd hh.2 (by decide))];rfl
   | 1,_=>rw [if_neg (λhh=>absurd hh.2 (by decide))];rfl
   | 2,_=>rw [if_neg (λhh=>absurd hh.2 (by decide))];rfl
   | 3,_=>rw [if_neg (λhh=>absurd hh.2 (by decide))];rfl
   | 4,_=>rw [if_neg (λhh=>absurd hh.2 (by decide))];rfl
   | 5,_=>rw [if_neg (λhh=>absurd hh.2 (by decide))];rfl
   | 6,_=>rw [if_pos ⟨rfl,rfl⟩];rfl
  ·rw [if_neg c,if_neg λhh=>c hh.1.symm]
 ·have d:((E.set k {E.one k with inv:=v}).one i).t= (E.one i).t:=by
   rw [a i];split;· rename_i c;subst c;rfl
   ·rfl
  rw [d];exact ae.bc (h.rows i hi) λb hb=>heap_setCell_other _ _ _ _ λc=>h.own i hi (by rw [hb,c])
theorem Ek.BK (h:Ek w e E) {k:Nat} (hk:k<16) (b:zL):Ek (w.setCell ⟨e.q,4+k*7+4,none⟩ (.string (Om.B b))) e (E.set k {E.one k with b:=b}):=by
 have a:=jt h.len hk {E.one k with b:=b};refine ⟨?_,by simp [En.set,h.len],λi hi=>?_,h.own,h.ap⟩;·
  rw [h.heap_set,vl (e:=e) (E:=E) (j:=4) (v:= .string (Om.B b)) (e':=e) (E':=E.set k {E.one k with b:=b}) hk (by decide) ⟨rfl,rfl,rfl,rfl⟩ λi hi b hb=>?_];rw [a i];by_cases c:k= i;· subst c;rw [if_pos rfl];match b,hb with
   | 0,_=>rw [if_neg (λhh=>absurd hh.2 (by decide))];rfl
   | 1,_=>rw [if_neg (λhh=>absurd hh.2 (by decide))];rfl
   | 2,_=>rw [if_neg (λhh=>absurd hh.2 (by decide))];rfl
   | 3,_=>rw [if_neg (λhh=>absurd hh.2 (by decide))];rfl
   | 4,_=>rw [if_pos ⟨rfl,rfl⟩];rfl
   | 5,_=>rw [if_neg (λhh=>absurd hh.2 (by decide))];rfl
   | 6,_=>rw [if_neg (λhh=>absurd hh.2 (by decide))];rfl
  ·rw [if_neg c,if_neg λhh=>c hh.1.symm]
 ·have d:((E.set k {E.one k with b:=b}).one i).t= (E.one i).t:=by
   rw [a i];split;· rename_i c;subst c;rfl
   ·rfl
  rw [d];exact ae.bc (h.rows i hi) λb hb=>heap_setCell_other _ _ _ _ λc=>h.own i hi (by rw [hb,c])
theorem Ek.PQ (h:Ek w e E) {k:Nat} (hk:k<16) {tv:Value} {t:zN} (m:Tb.Ints w tv t) (l:tv.ownBlock≠some e.q) (g:∀i,i<16->i≠k->∀b,(e.tv i).ownBlock= some b->tv.ownBlock≠some b):Ek (w.setCell ⟨e.q,4+k*7+5,none⟩ tv) (e.dR k tv) (E.set k {E.one k with t:=t}):=by
 have f:=jt h.len hk {E.one k with t:=t};refine ⟨?_,by simp [En.set,h.len],λi hi=>?_,λi hi=>?_,λi j hi hj hij b a=>?_⟩;·
  show (w.setCell ⟨e.q,4+k*7+5,none⟩ tv).heap[e.q]?= _;rw [h.heap_set,vl (e:=e) (E:=E) (j:=5) (v:=tv) (e':=e.dR k tv) (E':=E.set k {E.one k with t:=t}) hk (by decide) ⟨rfl,rfl,rfl,rfl⟩ λi hi b a=>?_];rw [f i];show (fq _ (if i= k then tv else e.tv i))[b]?= _;by_cases c:k= i;· subst c;rw [if_pos rfl,if_pos rfl];match b,a with
   | 0,_=>rw [if_neg (λhh=>absurd hh.2 (by decide))];rfl
   | 1,_=>rw [if_neg (λhh=>absurd hh.2 (by decide))];rfl
   | 2,_=>rw [if_neg (λhh=>absurd hh.2 (by decide))];rfl
   | 3,_=>rw [if_neg (λhh=>absurd hh.2 (by decide))];rfl
   | 4,_=>rw [if_neg (λhh=>absurd hh.2 (by decide))];rfl
   | 5,_=>rw [if_pos ⟨rfl,rfl⟩];rfl
   | 6,_=>rw [if_neg (λhh=>absurd hh.2 (by decide))];rfl
  ·rw [if_neg c,if_neg λhh=>c hh.symm,if_neg λhh=>c hh.1.symm]
 ·rw [f i];show Tb.Ints _ (if i= k then tv else e.tv i) _;by_cases c:i= k;· subst c;rw [if_pos rfl,if_pos rfl];exact ae.bc m λb a=>heap_setCell_other _ _ _ _ λe'=>l (by rw [a,e'])
  ·rw [if_neg c,if_neg (λh=>c h.symm)];exact ae.bc (h.rows i hi) λb a=>heap_setCell_other _ _ _ _ λe'=>h.own i hi (by rw [a,e'])
 ·show (if i= k then tv else e.tv i).ownBlock≠some e.q;by_cases c:i= k;· rw [if_pos c];exact l
  ·rw [if_neg c];exact h.own i hi
 ·have a:(if i= k then tv else e.tv i).ownBlock= some b:=a;show (if j= k then tv else e.tv j).ownBlock≠some b;by_cases c:i= k;· rw [if_pos c]at a;rw [if_neg (by omega)];exact λhj'=>g j hj (by omega) b hj' a
  ·rw [if_neg c]at a;by_cases d:j= k;· rw [if_pos d];exact g i hi c b a
   ·rw [if_neg d];exact h.ap i j hi hj hij b a
theorem Ek.rI {w':World} (h:Ek w e E) {k:Nat} (hk:k<16) {t:zN} (d:Tb.fu (e.tv k) t w w'):Ek w' e (E.set k {E.one k with t:=t}):=by
 have a:=jt h.len hk {E.one k with t:=t};refine ⟨?_,by simp [En.set,h.len],λi hi=>?_,h.own,h.ap⟩;·
  rw [d.2.block e.q (h.lt _ (.inl rfl)) (h.own k hk),h.head];congr 3;unfold Eb.cells;congr 1;unfold dX;show ((List.range 16).map _).flatten= ((List.range 16).map _).flatten;congr 1;refine List.map_congr_left λi hi=>?_;rw [a i];split;· rename_i c;subst c;rfl
  ·rfl
 ·rw [a i];by_cases c:k= i;· subst c;rw [if_pos rfl];exact d.1
  ·rw [if_neg c];exact ae.bc (h.rows i hi) λb hb=>d.2.block b (h.lt b (.inr ⟨i,hi,hb⟩)) λhc=>h.ap k i hk hi c b hc hb
def aT (e:Eb) (E':En) (w w':World):Prop:=∃e',Ek w' e' E'/\e'.q= e.q/\ae.Fr e.fp w w'/\∀j,e'.fp j->e.fp j\/w.heap.size<=j
theorem aT.refl (h:Ek w e E):aT e E w w:=⟨e,h,rfl,ae.Fr.refl _ _,λ_ h=> .inl h⟩
theorem aT.ax {w':World} (h:Ek w e E) (hb:zB w w'):aT e E w w':=⟨e,h.below hb,rfl,ae.Fr.ax hb,λ_ h=> .inl h⟩
theorem aT.below {E':En} {w1 w2:World} (a:zB w w1) (h:aT e E' w1 w2):aT e E' w w2:=by obtain ⟨e',h1,f,d,b⟩:=h;exact ⟨e',h1,f,(ae.Fr.ax a).trans d λ_ _ h=>h,λj hj=>(b j hj).imp id λc=>A6 a.size c⟩
theorem aT.trans {e1:Eb} {E1 E2:En} {w1 w2:World} (b:e1.q= e.q/\ae.Fr e.fp w w1/\∀j,e1.fp j->e.fp j\/w.heap.size<=j) (h:aT e1 E2 w1 w2):aT e E2 w w2:=by
 obtain ⟨e',h1,g,f,d⟩:=h;obtain ⟨s1,s2,a⟩:=b;refine ⟨e',h1,g.trans s1,s2.trans f λj hj hf=>(a j hf).elim id λc=>by omega,λj hj=>?_⟩;rcases d j hj with c|c;· exact a j c
 ·exact .inr (A6 s2.size c)
theorem aT.rI {w':World} (h:Ek w e E) {k:Nat} (hk:k<16) {t:zN} (ht:Tb.fu (e.tv k) t w w'):aT e (E.set k {E.one k with t:=t}) w w':= ⟨e,h.rI hk ht,rfl,ht.2.mono λj _ hj=> .inr ⟨k,hk,hj⟩,λ_ h=> .inl h⟩
theorem set_set (x y:One):(E.set k x).set k y= E.set k y:=by unfold En.set;simp
theorem vm (hk:k<E.s.length):E.set k (E.one k)= E:=by unfold En.set En.one;rw [FU,C1 hk];simp
theorem dJ (h:Ek w e E) {w1:World} (o:Nat) (v:Value):ae.Fr e.fp w1 (w1.setCell ⟨e.q,o,none⟩ v):=ae.Fr.setCell (ae.Fr.refl _ _) ⟨e.q,o,none⟩ (.inl rfl) _
theorem Ek.ig (h:Ek w e E) (j:Nat):w.frozen? (zD e.q j)= false:=frozen_of_row (j:=j) _ _ _ _ h.head
theorem BL (h:Ek w e E) {k:Nat} (hk:k<16) (c:Nat) (hc:c<=1048576) (C:(E.one k).t.length<=1048576): zF 72 #[.pointer (some ⟨e.q,4+k*7,none⟩),zI c] w λr w'=>r= nf (.bool ((E.one k).place c).2)/\aT e (E.set k ((E.one k).place c).1) w w':=by obtain ⟨-, -, -, -, -,c5, -⟩:=h.at hk;have d:=h.rows k hk;obtain ⟨a,cp,o⟩:=ae.ck d;rw [o]at d c5;have u:=hT (Tb.tR d (c:Int) C);cases hf:Tb.find (E.one k).t (c:Int) with
 | some i =>
 have hp:(E.one k).place c= (E.one k,true):=by unfold One.place;rw [hf];rfl
 rw [Tb.vj hf]at u;have f:Hid (aT e (E.set k (E.one k)) w w):=hT (by rw [vm (by rw [h.len];exact hk)];exact aT.refl h);rw [hp];generalize (E.one k).t.length= n at c5 u o;generalize E.set k (E.one k)= E2 at f⊢;clear h d C hf hp;go_enter func72,ntmps72;go_wp2_with fail;refine zh u.out ?_;go_wp2_with fail;go_ret;exact ⟨rfl,f.out⟩
 | none => rw [Tb.vk hf]at u;have p:=hT (Tb.PM d (c:Int) C);cases hg:Tb.bn (E.one k).t with
 | some i =>
 have hp:(E.one k).place c= ({E.one k with t:=(E.one k).t.set i (c:Int)},true):=by unfold One.place;rw [hf,hg];rfl
 rw [Tb.pt ⟨by omega,by omega⟩ hf hg]at p;rw [<-o]at p;have f:Hid (∀w',Tb.fu (e.tv k) ((E.one k).t.set i (c:Int)) w w'->aT e (E.set k {E.one k with t:=(E.one k).t.set i (c:Int)}) w w'):=hT λw' ht=>aT.rI h hk ht;rw [o]at p f;rw [hp];generalize (E.one k).t.set i (c:Int)= m2 at p f⊢;generalize E.set k {E.one k with t:=m2}= E2 at f⊢;generalize (E.one k).t.length= n at c5 u p o f;clear h d C hf hp hg;go_enter func72,ntmps72;go_wp2_with fail;refine zh u.out ?_;go_wp2_with fail;refine zg p.out λw1 ht=>?_;have HT:=hT (f.out _ ht);clear ht;go_wp2_with fail;go_ret;exact ⟨rfl,HT.out⟩
 | none =>
 have hp:(E.one k).place c= ({E.one k with inv:=true,t:=vw (E.one k).t.length (-1),b:= []},false):=by unfold One.place;rw [hf,hg];rfl
 rw [Tb.pw ⟨by omega,by omega⟩ hf hg]at p;rw [hp];obtain ⟨n,R⟩:=eX1 ((E.one k).t.length);rw [<-R]at c5 u p o C⊢;have K1:Hid (∀w1,Tb.fu (.slice a n cp) (E.one k).t w w1->Ek w1 e E/\ae.Fr e.fp w w1):=hT λw1 ht=>by rw [<-o]at ht;have h1:=h.rI hk ht;have e0:({E.one k with t:=(E.one k).t}:One)= E.one k:=rfl;rw [e0,vm (by rw [h.len];exact hk)]at h1;exact ⟨h1,ht.2.mono λj _ g=> .inr ⟨k,hk,g⟩⟩
 have NW:=hT (λw1=>Tb.yJ (n:Int) w1 n (by rw [if_neg (by omega)];omega) (by omega));have HE:Hid (((E.set k {E.one k with inv:=true}).set k {(E.set k {E.one k with inv:=true}).one k with t:=vw n (-1)})= E.set k {E.one k with inv:=true,t:=vw n (-1)}):=hT (by rw [set_set,jt h.len hk,if_pos rfl]);have O:Hid (((E.set k {E.one k with inv:=true,t:=vw n (-1)}).set k {(E.set k {E.one k with inv:=true,t:=vw n (-1)}).one k with b:= []})= E.set k {E.one k with inv:=true,t:=vw n (-1),b:= []}):=hT (by rw [set_set,jt h.len hk,if_pos rfl]);have U:=hT o;clear h d C hf hp hg R o hc;go_enter func72,ntmps72;go_wp2_with fail;refine zh u.out ?_;go_wp2_with fail;refine zg p.out λw1 ht=>?_;have m:=hT (K1.out _ ht);clear ht;obtain ⟨-, -, -, -,Z,Q,Y⟩:=m.out.1.at hk;have X:=m.out.1.ig;rw [U.out]at Q;obtain ⟨T,y⟩:=eX2 (w1.setCell ⟨e.q,4+k*7+6,none⟩ (.bool true));have B:Hid (Ek T e (E.set k {E.one k with inv:=true})):=hT (by rw [<-y];exact m.out.1.ur hk true);have L:Hid (ae.Fr e.fp w T):=hT (by rw [<-y];exact m.out.2.trans (dJ m.out.1 _ _) λ_ _ h=>h);obtain ⟨-, -, -, -,W,P,V⟩:=B.out.at hk;rw [U.out]at P;clear c5;go_wp2_with fail;clear y;refine (NW.out _).mono ?_;rintro r w3 ⟨v,rfl,hi,s,H⟩;obtain ⟨F,D,G⟩:=ae.ck hi;rw [Tq]at G;subst G;have l:=hT (B.out.below H);have z:=hT s;have HI:=hT hi;have N:=hT (L.out.trans (ae.Fr.ax H) λ_ _ h=>h);have K:=hT λj g=>B.out.lt j g;clear hi s H Z Q Y X W P V;obtain ⟨-, -, -, -,z4,z5,z6⟩:=l.out.at hk;have zf:=l.out.ig;obtain ⟨S,x⟩:=eX2 (w3.setCell ⟨e.q,4+k*7+5,none⟩ (.slice F n D));have A:Hid (Ek S (e.dR k (.slice F n D)) (E.set k {E.one k with inv:=true,t:=vw n (-1)})):=hT (by have:=l.out.PQ hk HI.out (λc=>by have:=z.out _ c;have:=K.out e.q (.inl rfl);omega) (λi hi _ b H c=>by have:=z.out _ c;have:=K.out b (.inr ⟨i,hi,H⟩);omega);rw [HE.out,x]at this;exact this);have M:Hid (ae.Fr e.fp w S):=hT (by rw [<-x];exact N.out.trans (dJ l.out _ _) λ_ _ h=>h);have J:Hid ((e.dR k (.slice F n D)).q= e.q):=hT rfl;obtain ⟨-, -, -, -,u4,u5,u6⟩:=A.out.at hk;have uf:=A.out.ig;rw [J.out]at u4 uf;clear u5 u6;go_wp2_with fail;clear x;go_ret;have I:=A.out.BK hk ([]:zL);rw [O.out,J.out]at I;refine ⟨rfl,e.dR k (.slice F n D),I,rfl,M.out.trans (dJ l.out _ _) λ_ _ h=>h,λj g=>?_⟩;rcases g with g|⟨i,hi,g⟩;· exact .inl (.inl g)
 ·have g:(if i= k then .slice F n D else e.tv i).ownBlock= some j:=g;by_cases c:i= k;· rw [if_pos c]at g;exact .inr (A6 L.out.size (z.out j g))
  ·rw [if_neg c]at g;exact .inl (.inr ⟨i,hi,g⟩)
def iQ (E:En):Prop:=∀i,i<16->(E.one i).t.length<=1048576
theorem BO (x:One) (c:Nat):(x.place c).1.t.length= x.t.length:=by
 unfold One.place;split;· rfl
 ·split;· exact TB ..
  ·exact Tq ..
structure m_ (e:Eb) (E:En) (c:Nat) (w:World) (k:Nat) (e':Eb) (wr:World):Prop where
 ek:Ek wr e' (aq E c k)
 q:e'.q= e.q
 fr:ae.Fr e.fp w wr
 fp:∀j,e'.fp j->e.fp j\/w.heap.size<=j
theorem BP (h:Ek w e E) (c:Nat) (z:c<=1048576) (y:iQ E): zF 71 #[zP e.q,zI c] w λr w'=>r= nf (.tuple #[])/\aT e (E.save c) w w':=by
 have G:Hid (m_ e E c w 0 e w):=hT ⟨h,rfl,ae.Fr.refl _ _,λ_ h=> .inl h⟩;have D:=hT h.len;have F:=hT y;have d:Hid (∀k,k<16->(aq E c k).one k= E.one k):=hT λk hk=>by rw [uS (by rw [D.out];omega),if_neg (by omega)]
 have C:Hid (∀k (hk:k<16) e' wr,m_ e E c w k e' wr->zF 72 #[.pointer (some ⟨e.q,4+k*7,none⟩),zI c] wr λr w'=>∃b,r= nf (.bool b)/\aT e' ((aq E c k).set k ((E.one k).place c).1) wr w'):=hT λk hk e' wr a=>by have:=BL a.ek hk c z (by rw [d.out k hk];exact F.out k hk);rw [a.q,d.out k hk]at this;refine zg this λw' o=>?_;exact ⟨_,rfl,o⟩
 clear h z y;go_enter func71,ntmps71;go_wp2_with fail;go_loopw [4] (λi wr=>∃(k:Nat) (e':Eb),i= zI k/\k<=16/\Hid (m_ e E c w k e' wr)) (λi _=>16 - (wo i).toNat);case atStart=>exact ⟨0,e,rfl,yb _,G⟩
 case round=>
  obtain ⟨k,e',rfl,hk,a⟩:=hrel;by_cases f:k<16;·
   have d1:decide ((k:Int) <16):=by simp;omega
   have p:decide (k<16):=by simp;omega
   have B:lg.wrap ((k:Int) +1)= ((k+1:Nat):Int):=by rw [rr _ (by omega)];rfl
   have H:(k:Int) <16:=by omega
   have g:=hT f;obtain ⟨c0, -, -, -, -, -,A⟩:=a.out.ek.at f;rw [a.out.q,d.out k f]at c0 A;have t:=hT (C.out k f e' wr a.out);have m:Hid (aq E c (k+1)= if (E.one k).s= 1/\(E.one k).inv= false then (aq E c k).set k ((E.one k).place c).1 else aq E c k):=hT rfl;generalize (E.one k).s= s at c0 m;generalize (E.one k).inv= v at A m;by_cases h1:s= 1;·
    have d2:(s == 1):=by simpa using h1
    cases v with
     | true =>
     have n:Hid (m_ e E c w (k+1) e' wr):=hT (by have:=m.out;rw [if_neg (λhh=>by cases hh.2)]at this;exact ⟨by rw [this];exact a.out.ek,a.out.q,a.out.fr,a.out.fp⟩);clear h1;go_wp2_with fail;go_roundw;case rel=>exact ⟨k+1,e',by go_num,by have:=g.out;omega,n⟩
     case measure=>have:=g.out;simp [wo];omega
     | false =>
     have n:Hid (∀w',aT e' ((aq E c k).set k ((E.one k).place c).1) wr w'->∃l,m_ e E c w (k+1) l w'):=hT λw' ⟨l,g1,g2,g3,g4⟩=>by
      have:=m.out;rw [if_pos ⟨h1,rfl⟩]at this;refine ⟨l,by rw [this];exact g1,g2.trans a.out.q,a.out.fr.trans g3 λj hj hb=>(a.out.fp j hb).elim id λc=>by omega,λj hj=>?_⟩;rcases g4 j hj with c|c;· exact a.out.fp j c
      ·exact .inr (A6 a.out.fr.size c)
     clear h1;go_wp2_with fail;refine t.out.mono ?_;rintro r w2 ⟨b,rfl,o⟩;obtain ⟨l,x⟩:=n.out w2 o;have u:=hT x;clear o x;go_wp2_with fail;go_roundw;case rel=>exact ⟨k+1,l,by go_num,by have:=g.out;omega,u⟩
     case measure=>have:=g.out;simp [wo];omega
   ·have d2:(s == 1)= false:=by simpa using h1
    have n:Hid (m_ e E c w (k+1) e' wr):=hT (by have:=m.out;rw [if_neg (λhh=>h1 hh.1)]at this;exact ⟨by rw [this];exact a.out.ek,a.out.q,a.out.fr,a.out.fp⟩);clear h1;go_wp2_with fail;go_roundw;case rel=>exact ⟨k+1,e',by go_num,by have:=g.out;omega,n⟩
    case measure=>have:=g.out;simp [wo];omega
  ·have d1:decide ((k:Int) <16)= false:=by simp;omega
   have p:decide (k<16)= false:=by simp;omega
   obtain rfl:k= 16:=by omega
   go_wp2_with fail;go_end0;exact ⟨rfl,e',a.out.ek,a.out.q,a.out.fr,a.out.fp⟩
theorem PS (h:Ek w e E): zF 68 #[zP e.q,zI 0] w λr w'=>r= nf (.string (Om.B (E.whole 0)))/\zB w w':=by have a:Hid (E.whole 0= E.b):=hT (by unfold En.whole;rw [if_pos rfl]);generalize E.whole 0= T at a;obtain ⟨-, -, -,c3⟩:=h.low;generalize E.b= b at c3 a;clear h;go_enter func68,ntmps68;go_wp2_with fail;go_ret;exact ⟨by rw [a.out];rfl,G3 _ _⟩
theorem PT (h:Ek w e E) (id:Int) (k:Nat) (hid:id= (k:Int) +1) (hk:k<16): zF 68 #[zP e.q,zI id] w λr w'=>r= nf (.string (Om.B (E.whole id)))/\zB w w':=by
 have a:Hid (E.whole id= (E.one k).b):=hT (by unfold En.whole;rw [if_neg (by omega),show (id - 1).toNat= k by omega]);generalize E.whole id= T at a;obtain ⟨-, -, -, -,c4, -, -⟩:=h.at hk;have d0:(id == 0)= false:=by simp;omega
 have hw:lg.wrap (id - 1)= (k:Int):=by rw [rr _ (by omega)];omega
 generalize (E.one k).b= b at c4 a;clear h hid;go_enter func68,ntmps68;go_wp2_with fail;go_ret;exact ⟨by rw [a.out];rfl,G3 _ _⟩
theorem PV (h:Ek w e E): zF 31 #[zP e.q] w λr w'=>Tb.lv (cn E 16) w r w':=by
 have H:=hT h;clear h;go_enter func31,ntmps31;go_wp2_with fail;go_loopw [4,3] (λi s wr=>∃(j k n:Nat) (v:Value),i= zI j/\s= v/\Hid (j= k+1)/\k<=16/\Hid (Tb.cA w (cn E k) v n wr)) (λi _ _=>17 - (wo i).toNat);case atStart=>exact ⟨1,0,0,_,rfl,rfl,hT rfl,yb _,hT (Tb.cA.nil zR)⟩
 case round=>
  obtain ⟨j,k,n,v,rfl,rfl,d,hk,f⟩:=hrel;by_cases C:k<16;·
   have d1:decide ((j:Int)<=16):=by have:=d.out;simp;omega
   have A:lg.wrap ((j:Int) +1)= ((j+1:Nat):Int):=by have:=d.out;rw [rr _ (by omega)];rfl
   have R:=hT (mZ (H.out.below f.out.below) (j:Int));have y:=hT (oL E k);have x:Hid (E.there (j:Int)= decide ((E.one k).s≠0)):=hT (by have:=d.out;unfold En.there;rw [show ((j:Int) - 1).toNat= k by omega,decide_eq_true (show 1<=(j:Int) by omega),decide_eq_true (show (j:Int)<=16 by omega)];rfl);go_wp2_with fail;refine zg R.out λw1 hb=>?_;have b:Hid (Tb.cA w (cn E k) _ n w1):=hT ⟨ae.bc f.out.row λq hq=>hb.block q (by obtain ⟨cur,m⟩:=ae.bV f.out.row q hq;exact ae.lt_of_heap m),f.out.len,f.out.new,f.out.below.trans (hb.mono f.out.below.size)⟩;clear hb;by_cases g:(E.one k).s≠0;·
    have l:E.there (j:Int):=by rw [x.out];exact decide_eq_true g
    have p:Hid (cn E (k+1)= cn E k ++ [(j:Int)]):=hT (by rw [y.out,if_pos g,d.out]);obtain ⟨a,c,B⟩:=ae.ck b.out.row;subst B;have o:=hT (b.out.own (j:Int));have z:=hT b.out.len;have G:n<=16:=by have:=z.out;have:=rh E k;omega
    rw [l];clear g l;go_wp2_with (at_builtin;refine Tb.mH rfl (.tmp 14) (.tmp 16) 59 underlying59 rfl (.slice a n c) n (cn E k) rfl z.out (by omega) o.out w1.heap.size (j:Int) rfl (by simp) ?_;intro F w2 h1 u t;have D:=hT (b.out.add h1 u t);clear h1 u t);go_roundw;case rel=>exact ⟨j+1,k+1,n+1,_,by go_num,rfl,hT (by rw [d.out]),by omega,by rw [p.out];exact D⟩
    case measure=>have:=d.out;simp [wo];omega
   ·have l:E.there (j:Int)= false:=by rw [x.out];exact decide_eq_false g
    have p:Hid (cn E (k+1)= cn E k):=hT (by rw [y.out,if_neg g]);rw [l];clear g l;go_wp2_with fail;go_roundw;case rel=>exact ⟨j+1,k+1,n,_,by go_num,rfl,hT (by rw [d.out]),by omega,by rw [p.out];exact b⟩
    case measure=>have:=d.out;simp [wo];omega
  ·have d1:decide ((j:Int)<=16)= false:=by have:=d.out;simp;omega
   have e:k= 16:=by omega
   subst e;go_wp2_with fail;go_ret;exact f.out.made
theorem vn {f:FuncId} {args:Array Value} {n:Nat} (h:zF f args (w.drewN n) λe w'=>e= nf v/\w.drewN n= w'):zF f args (w.drewN n) λe w''=>e= nf v/\∃m,w''= w.drewN m:= h.mono λ_ _ ⟨he,hm⟩=>⟨he,n,hm.symm⟩
theorem PZ (h:Ek w e E) (c:Int) (b:Em.aM (E.n:Int) (E.g:Int)) (f:c<0\/(Em.parts E.n E.g:Int)<=c): zF 27 #[zP e.q,zI c] w λr w'=>r= nf (zI 2)/\zB w w':=by
 obtain ⟨-,c1,c2, -⟩:=h.low;have a:=λn=>vn (n:=n) (w:=w) (Geo.BM (E.n:Int) (E.g:Int) (w.drewN n));rw [Geo.oE b]at a;have a:=hT a;generalize (E.n:Int)= n at c1 a b;generalize (E.g:Int)= g at c2 a b;generalize (Em.parts E.n E.g:Int)= m at a f;clear h b;by_cases d:c<0;·
  have d1:decide (c<0):=by simpa using d
  clear d f;go_enter func27,ntmps27;go_wp2_with fail;go_quiet (fail);go_wp2_with fail;go_ret;exact ⟨rfl,Go.Proofs.YtchihokmgmchcaaGreat.fc zR nq⟩
 ·have d1:decide (c<0)= false:=by simpa using d
  have d2:decide (c>=m):=by simp;omega
  clear d f;go_enter func27,ntmps27;go_wp2_with fail;go_quiet ((go_at_call 76;exact a.out _));go_wp2_with fail;go_ret;exact ⟨rfl,Go.Proofs.YtchihokmgmchcaaGreat.fc zR nq⟩
theorem P5 (h:Ek w e E) (c:Nat) (b:Em.aM (E.n:Int) (E.g:Int)) (j:c<Em.parts E.n E.g) (i:iQ E): zF 27 #[zP e.q,zI c] w λr w'=>r= nf (zI 0)/\aT e (E.save c) w w':=by
 obtain ⟨-,c1,c2, -⟩:=h.low;have d:c<=1048576:=by have:=Em.iw E.n E.g;have:=(Em.cM _ _).1 b;omega
 have l:=hT (λw1 (hb:zB w w1)=>BP (h.below hb) c d i);have a:=λn=>vn (n:=n) (w:=w) (Geo.BM (E.n:Int) (E.g:Int) (w.drewN n));rw [Geo.oE b]at a;have a:=hT a;obtain ⟨m,hm⟩:=eX1 (Em.parts E.n E.g);rw [<-hm]at a j;have d1:decide ((c:Int) <0)= false:=by simp
 have k:decide (m<=c)= false:=by simp;omega
 generalize (E.n:Int)= n at c1 a b;generalize (E.g:Int)= g at c2 a b;clear h b hm j d i;go_enter func27,ntmps27;go_wp2_with fail;go_quiet ((go_at_call 76;exact a.out _));have f:=hT (l.out (w.drewN nq) (Go.Proofs.YtchihokmgmchcaaGreat.fc zR nq));have p:=hT (Go.Proofs.YtchihokmgmchcaaGreat.fc (G3 w.heap.size w) nq);go_wp2_with fail;refine zg f.out λw2 hg=>?_;have o:=hT (aT.below p.out hg);clear hg;go_wp2_with fail;go_ret;exact ⟨rfl,o.out⟩
theorem P6 (h:Ek w e E) (id:Int) (a:E.there id= false): zF 23 #[zP e.q,zI id] w λr w'=>r= nf (zI 161)/\zB w w':=by have R:=hT (mZ h id);clear h;go_enter func23,ntmps23;go_wp2_with fail;refine zg R.out λw1 hb=>?_;have b:=hT hb;rw [a];clear hb a;go_wp2_with fail;go_ret;exact ⟨rfl,b.out⟩
theorem P7 (h:Ek w e E) (id:Int) (b:E.there id) (hm:(E.al:Int)= id): zF 23 #[zP e.q,zI id] w λr w'=>r= nf (zI 163)/\zB w w':=by
 have H:=hT h;have R:=hT (mZ h id);have d1:((E.al:Int) == id):=by simpa using hm
 clear h;go_enter func23,ntmps23;go_wp2_with fail;refine zg R.out λw1 hb=>?_;have d:=hT hb;have c:=hT (lK (H.out.below hb));rw [b];generalize E.al= m at c d1;clear hb b hm;go_wp2_with fail;refine zg c.out λw2 hb2=>?_;have a:=zT d hb2;clear hb2;go_wp2_with fail;go_ret;exact ⟨rfl,a.out⟩
def En.fv (E:En) (id:Int):Int:=if E.there id= true then if (E.al:Int)= id then 163 else 0 else 161
def En.del (E:En) (id:Int):En:=if E.fv id= 0 then E.set (id - 1).toNat (E.one (id - 1).toNat).gone else E
variable{id:Int}
theorem fb :E.there id= true↔∃k:Nat,k<16/\id= (k:Int) +1/\(E.one k).s≠0:=by
 unfold En.there;rw [N6,N6,decide_eq_true_eq,decide_eq_true_eq,decide_eq_true_eq];constructor;· rintro ⟨⟨a,b⟩,c⟩;exact ⟨(id - 1).toNat,by omega,by omega,c⟩
 ·rintro ⟨k,hk,rfl,c⟩;exact ⟨⟨by omega,by omega⟩,by rw [show ((k:Int) +1 - 1).toNat= k by omega];exact c⟩
theorem P8 (h:Ek w e E) (id:Int): zF 23 #[zP e.q,zI id] w λr w'=>r= nf (zI (E.fv id))/\aT e (E.del id) w w':=by cases ht:E.there id with
 | false =>
 have f:E.fv id= 161:=by unfold En.fv;rw [ht];rfl
 have h1:E.del id= E:=by unfold En.del;rw [f];rfl
 rw [f,h1];refine zg (P6 h id ht) λw' g=>?_;exact ⟨rfl,aT.ax h g⟩
 | true =>
 by_cases hm:(E.al:Int)= id;·
  have f:E.fv id= 163:=by unfold En.fv;rw [ht,if_pos rfl,if_pos hm]
  have h1:E.del id= E:=by unfold En.del;rw [f];rfl
  rw [f,h1];refine zg (P7 h id ht hm) λw' g=>?_;exact ⟨rfl,aT.ax h g⟩
 ·have f:E.fv id= 0:=by unfold En.fv;rw [ht,if_pos rfl,if_neg hm]
  have h1:E.del id= E.set (id - 1).toNat (E.one (id - 1).toNat).gone:=by unfold En.del;rw [f,if_pos rfl]
  rw [f,h1];obtain ⟨k,hk,rfl,_⟩:=fb.1 ht;rw [show ((k:Int) +1 - 1).toNat= k by omega];refine (PB h ((k:Int) +1) ht hm).mono ?_;rw [show ((k:Int) +1 - 1).toNat= k by omega];rintro r w' ⟨rfl,w3,g,rfl⟩;refine ⟨rfl,aT.below g ?_⟩;have a:=h.below g;refine ⟨e.dR k (AF none 0 0),a.put hk _ (Ts _ _ _ _) (λc=>(by cases c)) (λi _ _ b _ c=>(by cases c)),rfl,?_,λj d=>?_⟩;· unfold js;exact (((((((dJ a _ _).trans (dJ a _ _) λ_ _ h=>h).trans (dJ a _ _) λ_ _ h=>h).trans (dJ a _ _) λ_ _ h=>h).trans (dJ a _ _) λ_ _ h=>h).trans (dJ a _ _) λ_ _ h=>h).trans (dJ a _ _) λ_ _ h=>h)
  ·rcases d with d|⟨i,hi,d⟩;· exact .inl (.inl d)
   ·have d:(if i= k then AF none 0 0 else e.tv i).ownBlock= some j:=d;by_cases c:i= k;· rw [if_pos c]at d;cases d
    ·rw [if_neg c]at d;exact .inl (.inr ⟨i,hi,d⟩)
def En.aY (E:En) (id a n:Int):Int:=if E.usable id≠0 then E.usable id else if 0<=a/\0<=n/\a+n<=(E.n:Int) then 0 else 2
def En.aA (E:En) (id a n:Int):zL:=if E.aY id a n= 0 then ((E.whole id).drop (64*a.toNat)).take (64*n.toNat) else []
theorem rL (h:E.usable id= 0):id= 0\/∃k:Nat,k<16/\id= (k:Int) +1:=by
 by_cases a:id= 0;· exact .inl a
 ·unfold En.usable at h;rw [if_neg a]at h;cases ht:E.there id with
  | false=>rw [ht]at h;cases h
  | true=>obtain ⟨k,hk,e,_⟩:=fb.1 ht;exact .inr ⟨k,hk,e⟩
theorem P9 (h:Ek w e E) (id:Int) (a:id= 0\/∃k:Nat,k<16/\id= (k:Int) +1): zF 68 #[zP e.q,zI id] w λr w'=>r= nf (.string (Om.B (E.whole id)))/\zB w w':=by
 rcases a with rfl|⟨k,hk,a⟩;· exact PS h
 ·exact PT h id k a hk
theorem P_ (h:Ek w e E) (id a n:Int) (b:E.usable id≠0): zF 24 #[zP e.q,zI id,zI a,zI n] w λr w'=>r= zV (.string (Om.B (E.aA id a n))) (zI (E.aY id a n))/\zB w w':=by
 have R:=hT (kI h id);have c:E.aY id a n= E.usable id:=by unfold En.aY;rw [if_pos b]
 have d:E.aA id a n= []:=by unfold En.aA;rw [c,if_neg b]
 rw [c,d];have d1:(E.usable id != 0):=by simpa using b
 generalize E.usable id= u at R d1⊢;clear h c d b;go_enter func24,ntmps24;go_wp2_with fail;refine zg R.out λw1 hb=>?_;have f:=hT hb;clear hb;go_wp2_with fail;go_ret2;exact ⟨rfl,f.out⟩
theorem Qa (h:Ek w e E) (id a n:Int) (o:E.usable id= 0) (y:E.n<=1048576) (k:¬(0<=a/\0<=n/\a+n<=(E.n:Int))): zF 24 #[zP e.q,zI id,zI a,zI n] w λr w'=>r= zV (.string (Om.B (E.aA id a n))) (zI (E.aY id a n))/\zB w w':=by
 have R:=kI h id;have m:E.aY id a n= 2:=by unfold En.aY;rw [if_neg (by rw [o];decide),if_neg k]
 have v:E.aA id a n= []:=by unfold En.aA;rw [m,if_neg (by decide)]
 rw [m,v];rw [o]at R;have R:=hT R;have H:=hT h;obtain ⟨N,l⟩:∃N:Int,N= (E.n:Int):=⟨_,rfl⟩;rw [<-l]at k;have x:=hT l;clear h m v o l;have s:Hid (N<=1048576):=hT (by rw [x.out];omega);have fin:∀c i b g:Bool,decide (a<0)= c->decide (n<0)= i->decide (N<a)= b->(c= false->b= false->lg.wrap (N - a)= N - a)->decide (N - a<n)= g->(c= true\/i= true\/b= true\/g= true)-> zF 24 #[zP e.q,zI id,zI a,zI n] w λr w'=>r= zV (.string (Om.B [])) (zI 2)/\zB w w':=by intro c i b g d1 d2 d3 f p d;clear k;go_enter func24,ntmps24;go_wp2_with fail;refine zg R.out λw1 hb=>?_;have j:=hT hb;obtain ⟨-,c1, -, -⟩:=(H.out.below hb).low;rw [<-x.out]at c1;clear hb;cases c with
  | true => clear p d f;go_wp2_with fail;go_ret2;exact ⟨rfl,j.out⟩
  | false => cases i with
  | true => clear p d f;go_wp2_with fail;go_ret2;exact ⟨rfl,j.out⟩
  | false => cases b with
  | true => clear p d f;go_wp2_with fail;go_ret2;exact ⟨rfl,j.out⟩
  | false =>
  have hw:=f rfl rfl;obtain rfl:g= true:=by simpa using d
  clear d f;go_wp2_with fail;go_ret2;exact ⟨rfl,j.out⟩
 refine fin _ _ _ _ rfl rfl rfl (λu t=>?_) rfl ?_;·
  have u:¬a<0:=by simpa using u
  have t:¬N<a:=by simpa using t
  have:=s.out;rw [rr _ (by omega)]
 ·simp only [decide_eq_true_eq];omega
theorem ub (h:Ek w e E) (id:Int) (a n:Nat) (f:E.usable id= 0) (t:E.n<=1048576) (s:a+n<=E.n) (u:(E.whole id).length= 64*E.n): zF 24 #[zP e.q,zI id,zI a,zI n] w λr w'=>r= zV (.string (Om.B (E.aA id (a:Int) (n:Int)))) (zI (E.aY id (a:Int) (n:Int)))/\zB w w':=by
 have R:=kI h id;have l:E.aY id (a:Int) (n:Int)= 0:=by unfold En.aY;rw [if_neg (by rw [f];decide),if_pos (by omega)]
 have v:E.aA id (a:Int) (n:Int)= ((E.whole id).drop (64*a)).take (64*n):=by unfold En.aA;rw [l,if_pos rfl,GH,GH]
 rw [l,v];rw [f]at R;have R:=hT R;have H:=hT h;have x:=hT (λw1 (hb:zB w w1)=>P9 (h.below hb) id (rL f));have b:(Om.B (E.whole id)).size= 64*E.n:=by rw [Om.aG,u]
 obtain ⟨T,j⟩:=eX1 (((E.whole id).drop (64*a)).take (64*n));have hex:(Om.B (E.whole id)).extract (64*a) (64*a+64*n)= Om.B T:=by rw [ae.rJ,j,Nat.add_sub_cancel_left]
 rw [<-j];obtain ⟨N,k⟩:=eX1 E.n;rw [<-k]at b t s;have D:=hT k;generalize Om.B (E.whole id)= W at x b hex;obtain ⟨i,d⟩:=eX1 (64*a);obtain ⟨g,c⟩:=eX1 (64*n);have d1:decide ((a:Int) <0)= false:=by simp
 have d2:decide ((n:Int) <0)= false:=by simp
 have C:decide (N<a)= false:=by simp;omega
 have hw:lg.wrap ((N:Int) - (a:Int))= (N:Int) - (a:Int):=by rw [rr _ (by omega)]
 have I:decide ((N:Int) - (a:Int) < (n:Int))= false:=by simp;omega
 have A:lg.wrap (64* (a:Int))= (i:Int):=by rw [rr _ (by omega)];omega
 have z:lg.wrap (64* (n:Int))= (g:Int):=by rw [rr _ (by omega)];omega
 have y:lg.wrap ((i:Int) + (g:Int))= ((i+g:Nat):Int):=by rw [rr _ (by omega)];rfl
 have G:((i+g:Nat):Int)<=(W.size:Int):=by omega
 rw [<-d,<-c]at hex;have o:=hT hex;clear h l v f k u j d c s t b;go_enter func24,ntmps24;go_wp2_with fail;refine zg R.out λw1 hb=>?_;have F:=hT hb;obtain ⟨-,c1, -, -⟩:=(H.out.below hb).low;rw [<-D.out]at c1;have m:=hT (x.out w1 hb);clear hb;go_wp2_with fail;refine zg m.out λw2 hb=>?_;have p:=zT F hb;clear hb;go_wp2_with fail;go_ret2;exact ⟨by rw [<-o.out];rfl,p.out⟩
theorem kq (h:Ek w e E) (id a n:Int) (c:E.n<=1048576) (f:E.usable id= 0->(E.whole id).length= 64*E.n): zF 24 #[zP e.q,zI id,zI a,zI n] w λr w'=>r= zV (.string (Om.B (E.aA id a n))) (zI (E.aY id a n))/\zB w w':=by
 by_cases b:E.usable id= 0;·
  by_cases d:0<=a/\0<=n/\a+n<=(E.n:Int);· obtain ⟨x,rfl⟩:∃x:Nat,a= (x:Int):=⟨a.toNat,by omega⟩;obtain ⟨y,rfl⟩:∃y:Nat,n= (y:Int):=⟨n.toNat,by omega⟩;exact ub h id x y b c (by omega) (f b)
  ·exact Qa h id a n b c d
 ·exact P_ h id a n b
open Go.RowKit
def dQ (E:En):Nat->Int
 | 0=> -1
 | j+1=>if (E.one (15 - j)).s= 0 then ((15 - j:Nat):Int) else dQ E j
def gl (E:En):Nat->Nat
 | 0=>0
 | j+1=>max (gl E j) (E.one (15 - j)).gen
theorem Qb (E:En) (j:Nat):dQ E j= -1\/∃k:Nat,k<16/\dQ E j= (k:Int):=by induction j with
 | zero=>exact .inl rfl
 | succ j ih =>
 unfold dQ;split;· exact .inr ⟨15 - j,by omega,rfl⟩
 ·exact ih
def En.cJ (E:En) (c:Int):Int:=Xm.cJ (17+ (E.n:Int)) ((E.a:Int) - (17+ (E.n:Int))) (E.bC c) (aR E 16)
def En.cK (E:En) (c:Int):Int:=Xm.cK (17+ (E.n:Int)) ((E.a:Int) - (17+ (E.n:Int))) (E.bC c) (aR E 16)
def En.dA (E:En) (c:Int):Int:=Xm.dA (17+ (E.n:Int)) ((E.a:Int) - (17+ (E.n:Int))) (E.bC c) (aR E 16)
def En.fw (E:En) (c:Int):Int:=if E.al≠0 then 163 else if dQ E 16<0 then 112 else if E.dH c≠0 then E.dH c else if E.dA c≠0 then 111 else if gl E 16= 4294967295 then 2 else 0
def En.vo (E:En) (c:Int):One:=⟨1,E.cJ c,E.cK c,gl E 16+1,E.b,vw c.toNat (-1),false⟩
def En.cr (E:En) (c:Int):En:=if E.fw c= 0 then E.set (dQ E 16).toNat (E.vo c) else E
def En.gJ (E:En) (c:Int):Int:=if E.fw c= 0 then dQ E 16+1 else 0
theorem vp (w:World) (q k:Nat) (x:One) (tv:Value) {b j:Nat} (h:b≠q\/j<4):(js w q k x tv).cell? (zD b j)= w.cell? (zD b j):=by have st:∀(u:World) (o:Nat) (v:Value),4<=o->(u.setCell ⟨q,o,none⟩ v).cell? (zD b j)= u.cell? (zD b j):=λu o v ho=>World.cell?_setCell_other u ⟨q,o,none⟩ ⟨b,j,none⟩ v (λc=>by injection c with c1 c2;rcases h with h|h<;>omega);unfold js;rw [st _ _ _ (by omega),st _ _ _ (by omega),st _ _ _ (by omega),st _ _ _ (by omega),st _ _ _ (by omega),st _ _ _ (by omega),st _ _ _ (by omega)]
theorem rC (h:Ek w e E) (c:Int) (hu:Um.aj (E.a:Int) (E.n:Int) (E.g:Int)) (hi:Xm.In (aR E 16) (aR E 16).length) (hg:gl E 16<4294967296): zF 21 #[zP e.q,zI c] w λr w'=>r= zV (zI (E.gJ c)) (zI (E.fw c))/\aT e (E.cr c) w w':=by
 have ca:=Um.cT hu;have hr:Em.aM (E.n:Int) (E.g:Int):=(Em.cM _ _).2 ⟨by omega,by omega,by omega,by omega⟩;have MG:=hT (lK h);have H:=hT h;have SZ:=λw1=>Py E.n E.g c w1 hr;have ST:=hT (λw1=>BE (E.a:Int) (E.n:Int) (E.g:Int) w1 hu);have US:=hT (λw1 (d:zB w w1)=>BH (h.below d));have V:Hid (∀p c' w1,Xm.bd w1 p (aR E 16)->zF 61 #[zM (17+ (E.n:Int)) ((E.a:Int) - (17+ (E.n:Int))),zI (E.bC c), .slice p (aR E 16).length c'] w1 λe w'=>e= zV (zM (E.cJ c) (E.cK c)) (zI (E.dA c))/\zB w1 w'):= hT (λp c' w1 W=>Xm.Pu (17+ (E.n:Int)) ((E.a:Int) - (17+ (E.n:Int))) (E.bC c) hi p c' w1 W);have bt:Hid (E.dH c= 0->1<=c/\c<=1048576):=hT λy=>by
  unfold En.dH at y;by_cases hc:c<1\/1048576<c;· rw [Geo.lP hr hc]at y;exact absurd y (by decide)
  ·omega
 have HC:Hid (∀w1,zB w w1->w1.cell? (zD e.q 0)= some (zI E.a)/\w1.cell? (zD e.q 1)= some (zI E.n)/\w1.cell? (zD e.q 2)= some (zI E.g)/\w1.cell? (zD e.q 3)= some (.string (Om.B E.b))):=hT λw1 d=>(h.below d).low;have HE:Hid (E.fw c= if E.al≠0 then 163 else if dQ E 16<0 then 112 else if E.dH c≠0 then E.dH c else if E.dA c≠0 then 111 else if gl E 16= 4294967295 then 2 else 0):=hT rfl;have HI:Hid (E.gJ c= if E.fw c= 0 then dQ E 16+1 else 0):=hT rfl;have HR:Hid (E.cr c= if E.fw c= 0 then E.set (dQ E 16).toNat (E.vo c) else E):=hT rfl;have o:Hid (E.fw c= 0->E.cr c= E.set (dQ E 16).toNat ⟨1,E.cJ c,E.cK c,gl E 16+1,E.b,vw c.toNat (-1),false⟩/\E.gJ c= dQ E 16+1):=hT λy=>⟨by rw [HR.out,if_pos y];rfl,by rw [HI.out,if_pos y]⟩;have NO:Hid (∀x,E.fw c= x->x≠0->∀w',zB w w'->E.gJ c= 0/\aT e (E.cr c) w w'):=hT λx W hx0 w' d=>by rw [HI.out,HR.out,if_neg (by rw [W];exact hx0),if_neg (by rw [W];exact hx0)];exact ⟨rfl,aT.ax h d⟩
 have ch:=hT (Qb E 16);have dm:=hT hg;generalize hci:E.gJ c= I at *;generalize hce:E.fw c= X at *;generalize hcr:E.cr c= E2 at *;rw [show (if Geo.refuse (E.n:Int) (E.g:Int) c 1 1048576= 0 then ((Em.size E.g c.toNat:Nat):Int) else 0)= E.bC c from rfl,show Geo.refuse (E.n:Int) (E.g:Int) c 1 1048576= E.dH c from rfl]at SZ;have SZ:=hT SZ;obtain ⟨X0,bs⟩:∃X0:Int,X0= 17+ (E.n:Int):=⟨_,rfl⟩;rw [<-bs]at ST V;obtain ⟨Y0,bq⟩:∃Y0:Int,Y0= (E.a:Int) - X0:=⟨_,rfl⟩;rw [<-bq]at ST V;obtain ⟨bb,bo⟩:=eX1 E.b;rw [<-bo]at o HC;generalize aR E 16= us at US V;generalize E.bC c= sz at SZ V;generalize E.dH c= se at SZ HE bt;generalize E.dA c= fe at V HE;generalize E.cJ c= fs at V o;generalize E.cK c= fl at V o;clear h hu hi hr ca hg hci hce hcr bs bq bo HI HR;go_enter func21,ntmps21;go_wp2_with fail;refine zg MG.out λw1 d=>?_;have A:=hT d;clear d;obtain ⟨mg,bl⟩:=eX1 E.al;rw [<-bl]at HE⊢;clear bl;by_cases hm:mg= 0;·
  subst hm;go_wp2_with fail;go_loopw [8,6,7] (λi s g wr=>∃(j G:Nat) (S:Int),i= zI (15 - (j:Int))/\s= zI S/\g= zU G/\j<=16/\Hid (S= dQ E j)/\Hid (G= gl E j)/\Hid (wr= w1)) (λi _ _ _=>(wo i+1).toNat);case atStart=>exact ⟨0,0, -1,by go_num,rfl,rfl,yb _,hT rfl,hT rfl,hT rfl⟩
  case round=>
   obtain ⟨j,G,S,rfl,rfl,rfl,u,hS,hG,hw⟩:=hrel;have HW:=hw.out;subst HW;by_cases F:j<16;·
    obtain ⟨i,K⟩:∃i:Nat,i= 15 - j:=⟨_,rfl⟩;have J:(15:Int) - (j:Int)= (i:Int):=by omega
    have P:=hT J;have bm:i<16:=by omega
    have k1:(i:Int) <16:=by omega
    have d1:decide ((i:Int)>=0):=by simp
    have eg:lg.wrap ((i:Int) - 1)= (i:Int) - 1:=by rw [rr _ (by omega)]
    obtain ⟨c0, -, -,c3, -, -, -⟩:=(H.out.below A.out).at bm;have af:Hid (dQ E (j+1)= if (E.one i).s= 0 then (i:Int) else dQ E j):=hT (by rw [K];rfl);have ao:Hid (gl E (j+1)= max (gl E j) (E.one i).gen):=hT (by rw [K];rfl);have HJ:=hT F;generalize (E.one i).s= s at c0 af;generalize (E.one i).gen= g at c3 ao;rw [J];by_cases y:s= 0;·
     have d2:(s == 0):=by simpa using y
     have ad:Hid ((i:Int)= dQ E (j+1)):=hT (by rw [af.out,if_pos y]);clear y K J;go_wp2_with fail;go_roundw;case rel=>exact ⟨j+1,max G g,(i:Int),congrArg (Value.int lg) (by have:=P.out;omega),rfl,congrArg (Value.int IntKind.u32) (by omega),by have:=HJ.out;omega,ad,hT (by rw [ao.out,hG.out]),hT trivial⟩
     case measure=>have:=P.out;simp [wo]
    ·have d2:(s == 0)= false:=by simpa using y
     have ad:Hid (S= dQ E (j+1)):=hT (by rw [af.out,if_neg y];exact hS.out);clear y K J;go_wp2_with fail;go_roundw;case rel=>exact ⟨j+1,max G g,S,congrArg (Value.int lg) (by have:=P.out;omega),rfl,congrArg (Value.int IntKind.u32) (by omega),by have:=HJ.out;omega,ad,hT (by rw [ao.out,hG.out]),hT trivial⟩
     case measure=>have:=P.out;simp [wo]
   ·obtain rfl:j= 16:=by omega
    have cb:(15:Int) - ((16:Nat):Int)= -1:=rfl;rw [cb];have bP:Hid (X= if S<0 then 112 else if se≠0 then se else if fe≠0 then 111 else if G= 4294967295 then 2 else 0):=hT (by rw [HE.out,if_neg (by decide),hS.out,hG.out]);have cm:Hid (S= -1\/∃k:Nat,k<16/\S= (k:Int)):=hT (by rw [hS.out];exact ch.out);have dw:Hid (G<4294967296):=hT (by rw [hG.out];exact dm.out);have cu:Hid (X= 0->E2= E.set S.toNat ⟨1,fs,fl,G+1,bb,vw c.toNat (-1),false⟩/\I= S+1):=hT (by rw [hS.out,hG.out];exact o.out);rcases cm.out with rfl|⟨k,hk,rfl⟩;· have l:Hid (X= 112):=hT (by rw [bP.out,if_pos (by decide)]);go_wp2_with fail;go_ret2;obtain ⟨n1,D⟩:=NO.out 112 l.out (by decide) _ A.out;exact ⟨by rw [l.out,n1];rfl,D⟩
    ·have d1:decide ((k:Int) <0)= false:=by simp
     have bG:Hid (X= if se≠0 then se else if fe≠0 then 111 else if G= 4294967295 then 2 else 0):=hT (by rw [bP.out,if_neg (by omega)]);obtain ⟨c0,c1,c2,c3⟩:=HC.out wr A.out;have cg:=hT (λn=>vn (n:=n) (w:=wr) (SZ.out (wr.drewN n)));go_wp2_with fail;go_quiet ((go_at_call 60;exact cg.out _));obtain ⟨W2,ab⟩:=eX1 (wr.drewN nq);rw [<-ab];have bf:Hid (zB w W2):=hT (by rw [ab];exact Go.Proofs.YtchihokmgmchcaaGreat.fc A.out nq);clear ab c0 c1 c2 c3;obtain ⟨c0,c1,c2,c3⟩:=HC.out W2 bf.out;by_cases t:se= 0;·
      have dx:=hT (bt.out t);subst t;have aw:Hid (X= if fe≠0 then 111 else if G= 4294967295 then 2 else 0):=hT (by rw [bG.out,if_neg (by decide)]);go_wp2_with fail;refine zg (ST.out _) λw3 d=>?_;have bS:=zT bf d;have cf:=hT (US.out w3 bS.out);clear d;go_wp2_with fail;refine cf.out.mono ?_;rintro r w4 ⟨p,U,rfl,W,d⟩;have dT:=zT bS d;have ea:=hT (V.out p U w4 W);clear d W;go_wp2_with fail;refine zg ea.out λC d=>?_;have ba:=zT dT d;clear d c0 c1 c2 c3;obtain ⟨W6,Z⟩:=eX2 (C.alloc (zE fs fl 65));have O:Hid (W6.heap[C.heap.size]?= some (hV #[zI fs,zI fl] 65 (0,0))):=hT (by rw [<-Z];exact heap_alloc_new C _);have m:Hid (zB w W6):=hT (by rw [<-Z];exact ba.out.alloc ba.out.size _);have bx:=hT (ti (H.out.lt e.q (.inl rfl)) ba.out.size);by_cases L:fe= 0;·
       subst L;by_cases M:G= 4294967295;·
        have d5:((G:Int) == 4294967295):=by simp;omega
        have l:Hid (X= 2):=hT (by rw [aw.out,if_neg (by decide),if_pos M]);clear M;go_wp2_with fail;go_ret2;obtain ⟨n1,D⟩:=NO.out 2 l.out (by decide) _ m.out;exact ⟨by rw [l.out,n1];rfl,D⟩
       ·have d5:((G:Int) == 4294967295)= false:=by simp;omega
        have l:Hid (X= 0):=hT (by rw [aw.out,if_neg (by decide),if_neg M]);have ef:IntKind.u32.wrap ((G:Int) +1)= ((G+1:Nat):Int):=by have:=dw.out;show ((G:Int) +1) % 4294967296= _;omega
        have ec:lg.wrap ((k:Int) +1)= (k:Int) +1:=by rw [rr _ (by omega)]
        have k1:(k:Int) <16:=by omega
        have HK:=hT hk;have hc:=dx.out;have NW:=hT (λw1=>Tb.yJ c w1 c.toNat (by rw [if_neg (by omega)]) (by omega));clear M hc;go_upto_region 21 with fail;clear Z;have b0:W6.cell? (zz C 0)= some (zI fs):=zW O.out;have b1:W6.cell? (zz C 1)= some (zI fl):=zW O.out;obtain ⟨-, -, -,a3⟩:=HC.out W6 m.out;obtain ⟨y0,y1,y2,y3,y4,y5,y6⟩:=(H.out.below m.out).at hk;obtain ⟨n,hn⟩:=eX1 c.toNat;have HN:=hT hn;rw [<-hn]at NW;unfold Tb.lv at NW;clear hn;go_region_held3 (λw'=>w'.cell? (zz C 0)= some (zI fs)/\w'.cell? (zz C 1)= some (zI fl)/\w'.cell? (zD e.q 3)= some (.string (Om.B bb))) (first|(refine ⟨?_,?_,?_⟩<;>with_reducible assumption)|(refine ⟨?_,?_,?_⟩<;>(rw [So.cw];with_reducible assumption))|(exact ⟨(vp _ e.q k ⟨1,fs,fl,G+1,bb, [],false⟩ (.slice R n Q) (.inl (by have:=bx.out;omega))).trans x0,(vp _ e.q k ⟨1,fs,fl,G+1,bb, [],false⟩ (.slice R n Q) (.inl (by have:=bx.out;omega))).trans x1,(vp _ e.q k ⟨1,fs,fl,G+1,bb, [],false⟩ (.slice R n Q) (.inr (by decide))).trans x3⟩)) (first
         | (go_at_call 64;refine (NW.out _).mono ?_;rintro r w8 ⟨v,rfl,Y,T,d⟩;obtain ⟨R,Q,bg⟩:=ae.ck Y;rw [Tq]at bg;subst bg;have d:=Og.dL d;have z:=zT m d;have N:Hid (Tb.Ints w8 (.slice R n Q) (vw n (-1))/\∀j,(AF R n Q).ownBlock= some j->W6.heap.size<=j):=hT ⟨Y,T⟩;obtain ⟨-, -, -,x3⟩:=HC.out w8 z.out;obtain ⟨z0,z1,z2,z3,z4,z5,z6⟩:=(H.out.below z.out).at hk;have zf:=(H.out.below z.out).ig;have x0:=(d.cell (p:=(zz C 0)) (DN.1 O.out).1).trans b0;have x1:=(d.cell (p:=(zz C 1)) (DN.1 O.out).1).trans b1;clear d Y T));have bX:Hid (aT e E2 w (js w8 e.q k ⟨1,fs,fl,G+1,bb,vw n (-1),false⟩ (.slice R n Q))/\I= (k:Int) +1):=hT (by
         obtain ⟨a1,a2⟩:=cu.out l.out;have f:=H.out.below z.out;have F:∀j,e.fp j->j<W6.heap.size:=λj u=>ti (H.out.lt j u) m.out.size;refine ⟨?_,a2⟩;rw [a1,<-HN.out,GH];refine ⟨e.dR k (.slice R n Q),f.put HK.out ⟨1,fs,fl,G+1,bb,vw n (-1),false⟩ N.out.1 (λU=>by have:=N.out.2 _ U;have:=F e.q (.inl rfl);omega) (λi hi _ b d U=>by have:=N.out.2 _ U;have:=F b (.inr ⟨i,hi,d⟩);omega),rfl,?_,λj u=>?_⟩;· unfold js;refine (ae.Fr.ax z.out:ae.Fr e.fp w w8).trans ?_ λ_ _ h=>h;exact (((((((dJ f _ _).trans (dJ f _ _) λ_ _ h=>h).trans (dJ f _ _) λ_ _ h=>h).trans (dJ f _ _) λ_ _ h=>h).trans (dJ f _ _) λ_ _ h=>h).trans (dJ f _ _) λ_ _ h=>h).trans (dJ f _ _) λ_ _ h=>h)
         ·rcases u with u|⟨i,hi,u⟩;· exact .inl (.inl u)
          ·have u:(if i= k then .slice R n Q else e.tv i).ownBlock= some j:=u;by_cases U:i= k;· rw [if_pos U]at u;exact .inr (A6 m.out.size (N.out.2 j u))
           ·rw [if_neg U]at u;exact .inl (.inr ⟨i,hi,u⟩));clear b0 b1 a3 y0 y1 y2 y3 y4 y5 y6 x0 x1 x3 z0 z1 z2 z3 z4 z5 z6 zf;go_wp2_with fail;go_ret2;exact ⟨by rw [l.out,bX.out.2];rfl,bX.out.1⟩
      ·have d5:(fe != 0):=by simpa using L
       have l:Hid (X= 111):=hT (by rw [aw.out,if_pos L]);clear L;go_wp2_with fail;go_ret2;obtain ⟨n1,D⟩:=NO.out 111 l.out (by decide) _ m.out;exact ⟨by rw [l.out,n1];rfl,D⟩
     ·have d5:(se != 0):=by simpa using t
      have l:Hid (X= se):=hT (by rw [bG.out,if_pos t]);have cp:=hT t;clear t;go_wp2_with fail;go_ret2;obtain ⟨n1,D⟩:=NO.out se l.out cp.out _ bf.out;exact ⟨by rw [l.out,n1];rfl,D⟩
 ·have d1:decide ((mg:Int) >0):=by simp;omega
  have eb:decide (0<mg):=by simp;omega
  have l:Hid (X= 163):=hT (by rw [HE.out,if_pos hm]);clear hm;go_wp2_with fail;go_ret2;obtain ⟨n1,D⟩:=NO.out 163 l.out (by decide) _ A.out;exact ⟨by rw [l.out,n1];rfl,D⟩
theorem Qf (D:En) (j:Nat):eA D j<=j:=by induction j with
 | zero=>exact Nat.le_refl _
 | succ j ih =>
 unfold eA;split;· omega
 ·split<;>omega
variable{base:Nat}{l:List Em.Pc}
theorem Qg (h:w.ownsRow base 129 3 v l.length (Geo.cH l)) (d:l≠ []):∃g c,v= AF (some ⟨g,0,none⟩) l.length c/\base<=g/\g<w.heap.size/\ ∀i (hi:i<l.length),w.cell? ⟨g,3*i,none⟩= some (zI (l[i].c:Int)):=by
 rcases h.2 with ⟨_,m⟩|⟨g,cap,cur,rfl,f,b,h1,o,n,k⟩;· exact (d (List.length_eq_zero_iff.1 m)).elim
 ·refine ⟨g,cap,rfl,f,(DN.1 b).1,λi hi=>?_⟩;have hp:=Geo.mS l;have get:∀j x,(Geo.cH l)[j]?= some x->w.cell? (zD g j)= some x:=λj x hj=>by rw [cell_of_row _ _ _ _ _ _ b];have e:=(List.getElem?_eq_some_iff.1 hj).1;have a:=hj;rw [<-k,List.getElem?_take,if_pos (by omega)]at a;simpa using a
  exact get _ _ (Geo.AK l i hi).1
theorem BU (h:w.ownsRow base 129 3 v l.length (Geo.cH l)):∃p g c,v= .slice p l.length c/\(l≠ []->p= some ⟨g,0,none⟩/\base<=g/\g<w.heap.size)/\ ∀i (hi:i<l.length),w.cell? ⟨g,i*3,none⟩= some (zI (l[i].c:Int)):=by
 by_cases a:l= [];·
  subst a;rcases h.2 with ⟨h1,f⟩|⟨g,cap,cur,rfl,_⟩;· exact ⟨none,0,0,h1,λc=>(c rfl).elim,λi hi=>by simp at hi⟩
  ·exact ⟨_,g,cap,rfl,λc=>(c rfl).elim,λi hi=>by simp at hi⟩
 ·obtain ⟨g,c,e,h1,d,b⟩:=Qg h a;exact ⟨_,g,c,e,λ_=>⟨rfl,h1,d⟩,λi hi=>by rw [Nat.mul_comm i 3];exact b i hi⟩
def En.bK (D:En) (id:Int) (c:Nat):En×Bool:= if id= 0 then ((if D.own c= true then D.save c else D),true) else (D.set (id - 1).toNat ((D.one (id - 1).toNat).place c).1,((D.one (id - 1).toNat).place c).2)
def au (D:En) (id:Int) (ps:List Em.Pc):Nat->En×Bool
 | 0=>(D,true)
 | k+1=>if (au D id ps k).2= true then (au D id ps k).1.bK id (ps.getD k ⟨0,0,0⟩).c else au D id ps k
variable{D:En}{ps:List Em.Pc}
theorem Qh (h:(au D id ps k).2= false) (n:Nat):au D id ps (k+n)= au D id ps k:=by induction n with
 | zero=>rfl
 | succ n ih => show (if (au D id ps (k+n)).2= true then _ else au D id ps (k+n))= _;rw [ih,h,if_neg (by decide)]
theorem Qi (a:D.s.length= 16) (h:iQ D) (c:Nat):iQ (D.save c):=λi hi=>by
 unfold En.save;rw [uS (by omega)];split;· rw [BO];exact h i hi
 ·exact h i hi
theorem Qj (a:D.s.length= 16) (h:iQ D) (id:Int) (b:id= 0\/∃k:Nat,k<16/\id= (k:Int) +1) (c:Nat):iQ (D.bK id c).1/\(D.bK id c).1.s.length= 16:=by
 rcases b with rfl|⟨k,hk,e⟩;·
  have f:D.bK 0 c= ((if D.own c= true then D.save c else D),true):=by unfold En.bK;rw [if_pos rfl]
  rw [f];by_cases d:D.own c= true;· rw [if_pos d];exact ⟨Qi a h c,(uR D c 16).trans a⟩
  ·rw [if_neg d];exact ⟨h,a⟩
 ·unfold En.bK;rw [if_neg (by omega),show (id - 1).toNat= k by omega];refine ⟨λi hi=>?_,by simp [En.set,a]⟩;show ((D.set k _).one i).t.length<=_;rw [jt a hk];split;· rw [BO];exact h k hk
  ·exact h i hi
structure dN (e:Eb) (E:En) (id:Int) (ps:List Em.Pc) (w:World) (k:Nat) (e':Eb) (wr:World):Prop where
 ok:(au E id ps k).2= true
 ek:Ek wr e' (au E id ps k).1
 aS:iQ (au E id ps k).1
 q:e'.q= e.q
 fr:ae.Fr e.fp w wr
 fp:∀j,e'.fp j->e.fp j\/w.heap.size<=j
theorem dN.below {wr w2:World} (h:dN e E id ps w k e' wr) (hb:zB wr w2):dN e E id ps w k e' w2:= ⟨h.ok,h.ek.below hb,h.aS,h.q,h.fr.trans (ae.Fr.ax hb) λ_ _ h=>h,h.fp⟩
theorem dN.next {wr w2:World} (h:dN e E id ps w k e' wr) (hk:k<ps.length) (b:id= 0\/∃k:Nat,k<16/\id= (k:Int) +1) (f:aT e' ((au E id ps k).1.bK id ps[k].c).1 wr w2): (au E id ps (k+1)= (au E id ps k).1.bK id ps[k].c)/\aT e (au E id ps (k+1)).1 w w2/\(((au E id ps k).1.bK id ps[k].c).2= true->∃e2,dN e E id ps w (k+1) e2 w2):=by
 have a:au E id ps (k+1)= (au E id ps k).1.bK id ps[k].c:=by show (if (au E id ps k).2= true then (au E id ps k).1.bK id (ps.getD k ⟨0,0,0⟩).c else _)= _;rw [h.ok,if_pos rfl,FU,C1 hk];rfl
 have d:=aT.trans (E1:=E) ⟨h.q,h.fr,h.fp⟩ f;refine ⟨a,by rw [a];exact d,λhb=>?_⟩;obtain ⟨e2,g1,g2,g3,g4⟩:=d;exact ⟨e2,by rw [a];exact hb,by rw [a];exact g1,by rw [a];exact (Qj h.ek.len h.aS id b _).1,g2,g3,g4⟩
theorem Ek.Qk (h:Ek w e E) (b:zL):Ek (w.setCell ⟨e.q,3,none⟩ (.string (Om.B b))) e (E.dF b):=by refine ⟨?_,h.len,λi hi=>ae.bc (h.rows i hi) λj hj=>heap_setCell_other _ _ _ _ λc=>h.own i hi (by rw [hj,c]),h.own,h.ap⟩;rw [h.heap_set];congr 3
theorem Ql (h:Ek w e E) (id a:Int) (D:ByteArray) (b:E.usable id≠0): zF 25 #[zP e.q,zI id,zI a, .string D] w λr w'=>r= nf (zI (E.usable id))/\zB w w':=by
 have R:=hT (kI h id);have d1:(E.usable id != 0):=by simpa using b
 generalize E.usable id= u at R d1⊢;clear h b;go_enter func25,ntmps25;go_wp2_with fail;refine zg R.out λw1 hb=>?_;have c:=hT hb;clear hb;go_wp2_with fail;go_ret;exact ⟨rfl,c.out⟩
theorem Qm (h:Ek w e E) (id a:Int) (D:zL) (f:E.usable id= 0) (i:D.length<=1073741824) (c:D.length % 64≠0): zF 25 #[zP e.q,zI id,zI a, .string (Om.B D)] w λr w'=>r= nf (zI 1)/\zB w w':=by
 have R:=kI h id;rw [f]at R;have R:=hT R;have b:=Om.aG D;obtain ⟨L,d⟩:=eX1 D.length;rw [<-d]at b i c;have hm:((L:Int)).tmod 64= ((L % 64:Nat):Int):=by rw [Vx (by omega)];rfl
 have g:lg.wrap (((L:Int)).tmod 64)= ((L % 64:Nat):Int):=by rw [hm,rr _ (by omega)]
 have j:((L % 64) != 0):=by simp;omega
 generalize Om.B D= B at b;clear h d c f;go_enter func25,ntmps25;go_wp2_with fail;refine zg R.out λw1 hb=>?_;have k:=hT hb;clear hb;go_wp2_with fail;go_ret;exact ⟨rfl,k.out⟩
theorem Qn (h:Ek w e E) (id a:Int) (D:zL) (m:Nat) (p:E.usable id= 0) (i:Em.aM (E.n:Int) (E.g:Int)) (o:D.length= 64*m) (y:D.length<=1073741824) (z:a<=9223372036854775807) (v:¬(0<=a/\a+ (m:Int)<=(E.n:Int))): zF 25 #[zP e.q,zI id,zI a, .string (Om.B D)] w λr w'=>r= nf (zI 2)/\zB w w':=by
 have R:=kI h id;rw [p]at R;have R:=hT R;have k:(Om.B D).size= 64*m:=by rw [Om.aG,o]
 have hm:(((64*m:Nat):Int)).tmod 64= 0:=by rw [Vx (by omega)];omega
 have u:(((64*m:Nat):Int)).tdiv 64= (m:Int):=by rw [Uk (by omega)];omega
 have j:((64:Int) * (m:Int)).tdiv 64= (m:Int):=by rw [Uk (by omega)];omega
 have t:lg.wrap (m:Int)= (m:Int):=by rw [rr _ (by omega)]
 have b:Geo.fK (E.n:Int) (E.g:Int) a (m:Int)= 2:=by
  rcases Geo.qW i (a:=a) (m:=(m:Int)) with ⟨_,_,_,_,_⟩|⟨h1,_⟩;· omega
  ·exact h1
 have x:=(Em.cM _ _).1 i;have c:=λw1=>Geo.Qc (E.n:Int) (E.g:Int) a (m:Int) w1 (by omega) z (by rw [b];decide);rw [b]at c;have c:=hT c;have f:Hid (∀w1,zB w w1->w1.cell? (zD e.q 1)= some (zI E.n)/\w1.cell? (zD e.q 2)= some (zI E.g)):=hT λw1 hb=>⟨(h.below hb).low.2.1,(h.below hb).low.2.2.1⟩;generalize (E.n:Int)= N at c f;generalize (E.g:Int)= G at c f;generalize Om.B D= B at k;obtain ⟨L,l⟩:=eX1 (64*m);rw [<-l]at k hm u;clear h o y p v i b x j l;go_enter func25,ntmps25;go_wp2_with fail;refine zg R.out λw1 hb=>?_;have s:=hT hb;obtain ⟨c1,c2⟩:=f.out w1 hb;clear hb;go_wp2_with fail;go_region_held3 (λw'=>w'.cell? (zD e.q 1)= some (zI N)/\w'.cell? (zD e.q 2)= some (zI G)) (first|(refine ⟨?_,?_⟩<;>assumption)|go_keep) (first
  | (go_at_call 69;refine zg (c.out _) λw3 hb=>?_;have d:=hT (s.out.trans ((Og.dL hb).mono s.out.size));obtain ⟨C,A⟩:=f.out w3 d.out;clear hb));go_wp2_with fail;go_ret;exact ⟨rfl,d.out⟩
theorem BV (h:Ek w e E) (id:Int) (a m:Nat) (D:zL) (h0:E.usable id= 0) (hr:Em.aM (E.n:Int) (E.g:Int)) (hD:D.length= 64*m) (hl:D.length<=1073741824) (bg:a+m<=E.n) (P:iQ E) (hid:id= 0) {ps:List Em.Pc} (aw:ps= Em.split E.g a m) (ca:∀k (hk:k<ps.length),ps[k].c<=1048576) (ad:∀E2,E2= (au E id ps ps.length).1->(au E id ps ps.length).2= true->E2.b.length= 64*E.n): zF 25 #[zP e.q,zI id,zI a, .string (Om.B D)] w λr w'=> ((au E id ps ps.length).2= true/\r= nf (zI 0)/\aT e ((au E id ps ps.length).1.dF (So.splice (au E id ps ps.length).1.b D a)) w w')\/((au E id ps ps.length).2= false/\r= nf (zI 162)/\aT e (au E id ps ps.length).1 w w'):=by
 have R:=kI h id;rw [h0]at R;have R:=hT R;have o:(Om.B D).size= 64*m:=by rw [Om.aG,hD]
 have hm:(((64*m:Nat):Int)).tmod 64= 0:=by rw [Vx (by omega)];omega
 have hq:(((64*m:Nat):Int)).tdiv 64= (m:Int):=by rw [Uk (by omega)];omega
 have dT:((64:Int) * (m:Int)).tdiv 64= (m:Int):=by rw [Uk (by omega)];omega
 have eS:lg.wrap (m:Int)= (m:Int):=by rw [rr _ (by omega)]
 have hn:=(Em.cM _ _).1 hr;have A:=rL h0;have SP:=λw1=>Geo.BR E.n E.g a m w1 hr bg;rw [<-aw]at SP;have SP:=hT SP;have HC:Hid (∀w1,zB w w1->w1.cell? (zD e.q 1)= some (zI E.n)/\w1.cell? (zD e.q 2)= some (zI E.g)):=hT λw1 d=>⟨(h.below d).low.2.1,(h.below d).low.2.2.1⟩;have H0:Hid (∀w1,zB w w1->dN e E id ps w1 0 e w1):=hT λw1 d=>⟨rfl,h.below d,P,rfl,ae.Fr.refl _ _,λ_ h=> .inl h⟩;have ej:=hT h.lt;have eZ:=hT A;have ey:=hT ca;have dw:=hT ad;have ei:Hid (a+m<=E.n/\E.n<=1048576/\D.length= 64*m):=hT ⟨bg,by omega,hD⟩;have ea:ps.length<=1048576:=by have:=Em.kM E.g a m;rw [<-aw]at this;omega
 obtain ⟨N,hN⟩:∃N:Int,N= (E.n:Int):=⟨_,rfl⟩;obtain ⟨G,hG⟩:∃G:Int,G= (E.g:Int):=⟨_,rfl⟩;rw [<-hN,<-hG]at SP HC;have dx:Hid (∃B,B= Om.B D):=hT ⟨_,rfl⟩;obtain ⟨B,hB⟩:=dx.out;have eD:=hT hB;rw [<-hB]at o⊢;obtain ⟨L,hL⟩:=eX1 (64*m);rw [<-hL]at o hm hq;have en:=hT hL;obtain ⟨n,bb⟩:=eX1 ps.length;rw [<-bb]at SP ea;have Y:=hT bb;subst hid;have SV:Hid (∀w0 k (hk:k<ps.length) e' wr,dN e E 0 ps w0 k e' wr->(au E 0 ps k).1.own ps[k].c= true->zF 71 #[zP e.q,zI (ps[k].c:Int)] wr λr w'=>r= nf (.tuple #[])/\aT e' ((au E 0 ps k).1.bK 0 ps[k].c).1 wr w'):=hT λw0 k hk e' wr o z=>by
  have:=BP o.ek ps[k].c (ey.out k hk) o.aS;rw [o.q]at this;have u:(au E 0 ps k).1.bK 0 ps[k].c= ((au E 0 ps k).1.save ps[k].c,true):=by unfold En.bK;rw [if_pos rfl,z,if_pos rfl]
  rw [u];exact this
 have NS:Hid (∀w0 k (hk:k<ps.length) e' wr,dN e E 0 ps w0 k e' wr->(au E 0 ps k).1.own ps[k].c= false->aT e' ((au E 0 ps k).1.bK 0 ps[k].c).1 wr wr):=hT λw0 k hk e' wr o z=>by
  have u:(au E 0 ps k).1.bK 0 ps[k].c= ((au E 0 ps k).1,true):=by unfold En.bK;rw [if_pos rfl,z,if_neg (by decide)]
  rw [u];exact aT.refl o.ek
 have ec:Hid (∀k (hk:k<ps.length),((au E 0 ps k).1.bK 0 ps[k].c).2= true):=hT λk hk=>by unfold En.bK;rw [if_pos rfl]
 have MG:Hid (∀w0 k e' wr,dN e E 0 ps w0 k e' wr->zF 33 #[zP e.q] wr λr w'=>r= nf (zI ((au E 0 ps k).1.al:Int))/\zB wr w'):=hT λw0 k e' wr o=>by have:=lK o.ek;rw [o.q]at this;exact this
 clear h hD hl h0 hr hn dT hL hN hG A ca ad bg aw P hB bb dx;go_enter func25,ntmps25;go_wp2_with fail;refine zg R.out λw1 d=>?_;have HB:=hT d;obtain ⟨c1,c2⟩:=HC.out w1 d;clear d;go_wp2_with fail;go_region_held3 (λw'=>w'.cell? (zD e.q 1)= some (zI N)/\w'.cell? (zD e.q 2)= some (zI G)) (first|(refine ⟨?_,?_⟩<;>assumption)|go_keep) (first
  | (go_at_call 69;refine (SP.out _).mono ?_;rintro r w3 ⟨v,rfl,f,d⟩;have bs:=hT (HB.out.trans ((Og.dL d).mono HB.out.size));obtain ⟨x1,x2⟩:=HC.out w3 bs.out;have ch:=hT f;clear d f));have f:=ch.out;rw [Y.out]at f;obtain ⟨p,gp,cp,rfl,bf,bX⟩:=BU f;have bt:=HB.out.size;have et:Hid (∀e' k2 wr,dN e E 0 ps w3 k2 e' wr->∀i (hi:i<ps.length),p= some ⟨gp,0,none⟩/\wr.cell? ⟨gp,i*3,none⟩= some (zI (ps[i].c:Int))):=hT λe' k2 wr o i hi=>by obtain ⟨h1,h2,h3⟩:=bf (λc=>by rw [c]at hi;simp at hi);refine ⟨h1,(So.gV (p:=⟨gp,i*3,none⟩) (o.fr.block gp h3 λc=>?_)).trans (bX i hi)⟩;have h4:=ej.out gp c;have h2:w1.heap.size<=gp:=h2;omega
 have ef:=hT (H0.out w3 bs.out);rw [<-Y.out];clear f bf bX bt x1 x2 c1 c2;go_wp2_with fail;go_loopw [12] (λi wr=>∃(k:Nat) (e':Eb),i= zI k/\k<=n/\Hid (dN e E 0 ps w3 k e' wr)) (λi _=>n - (wo i).toNat);case atStart=>exact ⟨0,e,rfl,yb _,ef⟩
 case round=>
  have eR:=o;obtain ⟨k,e',rfl,hk,o⟩:=hrel;by_cases bS:k<n;·
   have d1:decide ((k:Int) < (n:Int)):=by simp;omega
   have eb:decide (k<n):=by simp;omega
   have eP:lg.wrap ((k:Int) +1)= ((k+1:Nat):Int):=by rw [rr _ (by omega)];rfl
   have k0:(0:Int)<=(k:Int):=by omega
   have k2:(k:Int) < (n:Int):=by omega
   have HK:=hT bS;have HKP:Hid (k<ps.length):=hT (by rw [<-Y.out];exact bS);obtain ⟨hp,g0⟩:=et.out e' k wr o.out k HKP.out;have I:Hid (∀wa w2,zB wr wa->aT e' ((au E 0 ps k).1.bK 0 (ps[k]'HKP.out).c).1 wa w2->(au E 0 ps (k+1)= (au E 0 ps k).1.bK 0 (ps[k]'HKP.out).c)/\aT e (au E 0 ps (k+1)).1 w3 w2/\(((au E 0 ps k).1.bK 0 (ps[k]'HKP.out).c).2= true->∃W,dN e E 0 ps w3 (k+1) W w2)):=hT λwa w2 hba hg=>(o.out.below hba).next HKP.out (.inl rfl) hg;have y:=hT (MG.out w3 k e' wr o.out);have X:=hT (λwa (d:zB wr wa)=>SV.out w3 k HKP.out e' wa (o.out.below d));have bq:=hT (λwa (d:zB wr wa)=>NS.out w3 k HKP.out e' wa (o.out.below d));have S2:=hT (ec.out k HKP.out);have x:=hT o.out.ek;have HQ:=hT o.out.q;have cu:=hT o.out.aS;have H:Hid ((au E 0 ps k).1.own (ps[k]'HKP.out).c= (decide ((au E 0 ps k).1.al= 0)|| (Tb.find ((au E 0 ps k).1.one ((au E 0 ps k).1.al - 1)).t ((ps[k]'HKP.out).c:Int)).isNone)):=hT rfl;generalize (au E 0 ps k).1= EK at X bq S2 x cu H y I;generalize (ps[k]'HKP.out).c= cc at g0 X bq S2 H I;have cm:Hid (EK.al≠0->EK.al - 1<16):=hT λbf=>by
    have:EK.al<=16:=by unfold En.al;exact Qf EK 16
    omega
   obtain ⟨mg,bG⟩:=eX1 EK.al;rw [<-bG]at y H cm;clear bG;subst hp;by_cases bP:mg= 0;·
    subst bP;have z:EK.own cc:=by rw [H.out];rfl
    have bm:=hT (λwa d=>X.out wa d z);clear z;go_wp2_with fail;refine zg y.out λwa d=>?_;have J:=hT d;have bl:=hT (bm.out wa d);clear d;go_wp2_with fail;refine zg bl.out λw5 hg=>?_;obtain ⟨W,l⟩:=(I.out wa w5 J.out hg).2.2 S2.out;have s:=hT l;clear hg l;go_wp2_with fail;go_roundw;case rel=>exact ⟨k+1,W,by go_num,by have:=HK.out;omega,s⟩
    case measure=>have:=HK.out;simp [wo];omega
   ·obtain ⟨j,rfl⟩:∃j,mg= j+1:=⟨mg - 1,by omega⟩;have hj:j<16:=by have:=cm.out (by omega);omega
    obtain ⟨M,hM⟩:∃M:Int,M= ((j+1:Nat):Int):=⟨_,rfl⟩;rw [<-hM]at y;have dm:(M == 0)= false:=by simp;omega
    have eT:max M 1= M:=by omega
    have eN:lg.wrap (M - 1)= (j:Int):=by rw [rr _ (by omega)];omega
    have k9:(j:Int) <16:=by omega
    clear hM bP;have f:=x.out.rows j hj;obtain ⟨ta,tc,K⟩:=ae.ck f;rw [K]at f;have RF:=hT (λwa (d:zB wr wa)=>Tb.tR (w:=wa) (a:=ta) (c:=tc) (m:=(EK.one j).t) (by have:=(x.out.below d).rows j hj;rw [K]at this;exact this) (cc:Int) (cu.out j hj));have ab:Hid (∀wa,zB wr wa->wa.cell? ⟨e.q,4+j*7+5,none⟩= some (.slice ta (EK.one j).t.length tc)):=hT λwa d=>by have:=((x.out.below d).at hj).2.2.2.2.2.1;rw [HQ.out,K]at this;exact this
    have af:Hid (EK.own cc= (Tb.find (EK.one j).t (cc:Int)).isNone):=hT (by rw [H.out,show j+1 - 1= j by omega];simp);clear f K;cases P:Tb.find (EK.one j).t (cc:Int) with
     | some i =>
     have z:EK.own cc= false:=by rw [af.out,P];rfl
     rw [Tb.vj P]at RF;have d7:decide ((i:Int) <0)= false:=by simp
     generalize (EK.one j).t.length= tn at RF ab;clear P;go_wp2_with fail;refine zg y.out λwa d=>?_;have J:=hT d;have bo:=hT (RF.out wa d);have z5:=ab.out wa d;have HG:=hT (bq.out wa d z);clear d z;go_wp2_with fail;refine zh bo.out ?_;obtain ⟨W,l⟩:=(I.out wa wa J.out HG.out).2.2 S2.out;have s:=hT l;clear l;go_wp2_with fail;go_roundw;case rel=>exact ⟨k+1,W,by go_num,by have:=HK.out;omega,s⟩
     case measure=>have:=HK.out;simp [wo];omega
     | none =>
     have z:EK.own cc:=by rw [af.out,P];rfl
     rw [Tb.vk P]at RF;generalize (EK.one j).t.length= tn at RF ab;have bm:=hT (λwa d=>X.out wa d z);clear P z;go_wp2_with fail;refine zg y.out λwa d=>?_;have J:=hT d;have bo:=hT (RF.out wa d);have z5:=ab.out wa d;have bl:=hT (bm.out wa d);clear d;go_wp2_with fail;refine zh bo.out ?_;go_wp2_with fail;refine zg bl.out λw5 hg=>?_;obtain ⟨W,l⟩:=(I.out wa w5 J.out hg).2.2 S2.out;have s:=hT l;clear hg l;go_wp2_with fail;go_roundw;case rel=>exact ⟨k+1,W,by go_num,by have:=HK.out;omega,s⟩
     case measure=>have:=HK.out;simp [wo];omega
  ·have d1:decide ((k:Int) < (n:Int))= false:=by simp;omega
   have eb:decide (k<n)= false:=by simp;omega
   obtain rfl:k= n:=by omega
   have HE:=hT o.out;have HK:=Y;obtain ⟨E2,V⟩:=eX1 ((au E 0 ps ps.length).1);have ba:(au E 0 ps ps.length).2:=by rw [<-HK.out];exact HE.out.ok
   have eg:=hT ba;have Q:Ek wr e' E2:=by rw [V,<-HK.out];exact HE.out.ek
   have eo:=hT Q;have er:=hT V;have cb:=dw.out E2 V ba;obtain ⟨na,nb,nc⟩:=ei.out;obtain ⟨-, -, -,y4⟩:=Q.low;have yf:=Q.ig 3;rw [HE.out.q]at y4 yf;have C:(Om.B E2.b).size= 64*E.n:=by rw [Om.aG,cb]
   obtain ⟨O,hO⟩:=eX1 (Om.B E2.b);rw [<-hO]at C y4;obtain ⟨sp,bx⟩:=eX1 (So.splice E2.b D a);have cg:=hT bx;obtain ⟨F,hF⟩:=eX1 (64*a);obtain ⟨S,hS⟩:=eX1 (64*E.n);have cf:=en.out;rw [<-hS]at C;have eG:lg.wrap (64* (a:Int))= (F:Int):=by rw [hF,rr _ (by omega)];omega
   obtain ⟨Z,hZ⟩:=eX1 (F+L);have eF:lg.wrap ((F:Int) + (L:Int))= (Z:Int):=by rw [rr _ (by omega)];omega
   have l1:(F:Int)<=(S:Int):=by omega
   have l2:(Z:Int)<=(S:Int):=by omega
   have l3:(0:Int)<=(F:Int):=by omega
   have l4:(0:Int)<=(Z:Int):=by omega
   obtain ⟨T1,U⟩:=eX1 (O.extract 0 F);obtain ⟨T2,T⟩:=eX1 (O.extract Z S);have z1:T1.size= F:=by rw [U,Vu,C];omega
   have z2:T2.size= S - Z:=by rw [T,Vu,C];omega
   have q3:¬9223372036854775807<T1.size+L+T2.size:=by rw [z1,z2];omega
   have eM:¬9223372036854775807<T1.size+L:=by rw [z1];omega
   have HT:Hid (T1 ++ B ++ T2= Om.B sp):=hT (by
    have W:T2= Om.B (E2.b.drop Z):=by rw [T,<-C,Om.j_,hO,Om.fx]
    have e1:T1= Om.B (E2.b.take F):=by rw [U,hO,Og.qN]
    rw [e1,W,eD.out,Om.fy,Om.fy,cg.out];unfold So.splice;rw [nc,hZ,hF,cf]);have eW:=U.symm;have eU:=T.symm;have eE:Hid (∀w2,zB wr w2->aT e ((au E 0 ps ps.length).1.dF (So.splice (au E 0 ps ps.length).1.b D a)) w (w2.setCell ⟨e.q,3,none⟩ (.string (Om.B sp)))):=hT λw2 d=>by have h2:=eo.out.below d;have:=h2.Qk sp;rw [HE.out.q]at this;rw [cg.out,er.out]at this⊢;exact aT.below bs.out ⟨e',this,HE.out.q,(HE.out.fr.trans (ae.Fr.ax d) λ_ _ h=>h).trans (ae.Fr.setCell (F:=e.fp) (ae.Fr.refl _ _) ⟨e.q,3,none⟩ (.inl rfl) _) λ_ _ h=>h,HE.out.fp⟩
   clear hF hS cf hZ U T z1 z2 hO bx Q V ba cb na nb nc;go_wp2_with fail;refine jE 21 (by kernel_rfl) (by kernel_rfl) ?_;intro w2 l;have z4:w2.cell? (zD e.q 3)= some (.string O):=by rw [l.out];exact y4
   have zf:w2.frozen? (zD e.q 3)= false:=by rw [l.out];exact yf
   have eC:Hid (zB wr w2):=hT (by rw [l.out];exact zR.drew);clear l y4 yf;simp only [UZ,Tj,U0,TA];repeat still_step
   refine wpStill_nil ?_;have ao:=hT (eE.out w2 eC.out);rw [<-HT.out]at ao;go_wp2_with fail;go_ret;exact .inl ⟨eg.out,rfl,ao.out⟩
theorem BZ (h:Ek w e E) (id:Int) (kk:Nat) (u:kk<16) (hid:id= (kk:Int) +1) (a m:Nat) (D:zL) (h0:E.usable id= 0) (hr:Em.aM (E.n:Int) (E.g:Int)) (hD:D.length= 64*m) (hl:D.length<=1073741824) (U:a+m<=E.n) (hf:iQ E) {ps:List Em.Pc} (Q:ps= Em.split E.g a m) (ba:∀k (hk:k<ps.length),ps[k].c<=1048576) (I:∀E2,E2= (au E id ps ps.length).1->(au E id ps ps.length).2= true->(E2.one kk).b.length= 64*E.n): zF 25 #[zP e.q,zI id,zI a, .string (Om.B D)] w λr w'=> ((au E id ps ps.length).2= true/\r= nf (zI 0)/\aT e ((au E id ps ps.length).1.set kk {(au E id ps ps.length).1.one kk with b:=So.splice ((au E id ps ps.length).1.one kk).b D a}) w w')\/((au E id ps ps.length).2= false/\r= nf (zI 162)/\aT e (au E id ps ps.length).1 w w'):=by
 have R:=kI h id;rw [h0]at R;have R:=hT R;have l:(Om.B D).size= 64*m:=by rw [Om.aG,hD]
 have hm:(((64*m:Nat):Int)).tmod 64= 0:=by rw [Vx (by omega)];omega
 have hq:(((64*m:Nat):Int)).tdiv 64= (m:Int):=by rw [Uk (by omega)];omega
 have bG:((64:Int) * (m:Int)).tdiv 64= (m:Int):=by rw [Uk (by omega)];omega
 have er:lg.wrap (m:Int)= (m:Int):=by rw [rr _ (by omega)]
 have hn:=(Em.cM _ _).1 hr;have s:=rL h0;have X:=λw1=>Geo.BR E.n E.g a m w1 hr U;rw [<-Q]at X;have X:=hT X;have HC:Hid (∀w1,zB w w1->w1.cell? (zD e.q 1)= some (zI E.n)/\w1.cell? (zD e.q 2)= some (zI E.g)):=hT λw1 f=>⟨(h.below f).low.2.1,(h.below f).low.2.2.1⟩;have H0:Hid (∀w1,zB w w1->dN e E id ps w1 0 e w1):=hT λw1 f=>⟨rfl,h.below f,hf,rfl,ae.Fr.refl _ _,λ_ h=> .inl h⟩;have ch:=hT h.lt;have cu:=hT s;have dx:=hT ba;have bs:=hT I;have cg:Hid (a+m<=E.n/\E.n<=1048576/\D.length= 64*m):=hT ⟨U,by omega,hD⟩;have bP:ps.length<=1048576:=by have:=Em.kM E.g a m;rw [<-Q]at this;omega
 obtain ⟨N,hN⟩:∃N:Int,N= (E.n:Int):=⟨_,rfl⟩;obtain ⟨G,hG⟩:∃G:Int,G= (E.g:Int):=⟨_,rfl⟩;rw [<-hN,<-hG]at X HC;have bx:Hid (∃B,B= Om.B D):=hT ⟨_,rfl⟩;obtain ⟨B,hB⟩:=bx.out;have eb:=hT hB;rw [<-hB]at l⊢;obtain ⟨L,hL⟩:=eX1 (64*m);rw [<-hL]at l hm hq;have cm:=hT hL;obtain ⟨n,T⟩:=eX1 ps.length;rw [<-T]at X bP;have C:=hT T;have d0:(id == 0)= false:=by simp;omega
 have d9:decide (id>0):=by simp;omega
 have en:lg.wrap (id - 1)= (kk:Int):=by rw [rr _ (by omega)];omega
 have k1:(kk:Int) <16:=by omega
 have PL:Hid (∀w0 k (hk:k<ps.length) e' wr,dN e E id ps w0 k e' wr->zF 72 #[.pointer (some ⟨e.q,4+kk*7,none⟩),zI (ps[k].c:Int)] wr λr w'=>r= nf (.bool ((au E id ps k).1.bK id ps[k].c).2)/\aT e' ((au E id ps k).1.bK id ps[k].c).1 wr w'):=hT λw0 k hk e' wr l=>by
  have:=BL l.ek u ps[k].c (dx.out k hk) (l.aS kk u);rw [l.q]at this;have P:(au E id ps k).1.bK id ps[k].c= ((au E id ps k).1.set kk (((au E id ps k).1.one kk).place ps[k].c).1,(((au E id ps k).1.one kk).place ps[k].c).2):=by unfold En.bK;rw [if_neg (by omega),show (id - 1).toNat= kk by omega]
  rw [P];exact this
 have MG:Hid (∀w0 k e' wr,dN e E id ps w0 k e' wr->zF 33 #[zP e.q] wr λr w'=>r= nf (zI ((au E id ps k).1.al:Int))/\zB wr w'):=hT λw0 k e' wr l=>by have:=lK l.ek;rw [l.q]at this;exact this
 clear h hD hl h0 hr hn bG hL hN hG s ba I U Q hf hB T bx hid;go_enter func25,ntmps25;go_wp2_with fail;refine zg R.out λw1 f=>?_;have HB:=hT f;obtain ⟨c1,c2⟩:=HC.out w1 f;clear f;go_wp2_with fail;go_region_held3 (λw'=>w'.cell? (zD e.q 1)= some (zI N)/\w'.cell? (zD e.q 2)= some (zI G)) (first|(refine ⟨?_,?_⟩<;>assumption)|go_keep) (first
  | (go_at_call 69;refine (X.out _).mono ?_;rintro r w3 ⟨v,rfl,d,f⟩;have H:=hT (HB.out.trans ((Og.dL f).mono HB.out.size));obtain ⟨x1,x2⟩:=HC.out w3 H.out;have bo:=hT d;clear f d));have d:=bo.out;rw [C.out]at d;obtain ⟨p,W,cp,rfl,af,aw⟩:=BU d;have Y:=HB.out.size;have dw:Hid (∀e' k2 wr,dN e E id ps w3 k2 e' wr->∀i (hi:i<ps.length),p= some ⟨W,0,none⟩/\wr.cell? ⟨W,i*3,none⟩= some (zI (ps[i].c:Int))):=hT λe' k2 wr l i hi=>by obtain ⟨h1,h2,h3⟩:=af (λc=>by rw [c]at hi;simp at hi);refine ⟨h1,(So.gV (p:=⟨W,i*3,none⟩) (l.fr.block W h3 λc=>?_)).trans (aw i hi)⟩;have h4:=ch.out W c;have h2:w1.heap.size<=W:=h2;omega
 have ca:=hT (H0.out w3 H.out);rw [<-C.out];clear d af aw Y x1 x2 c1 c2;go_wp2_with fail;go_loopw [12] (λi wr=>∃(k:Nat) (e':Eb),i= zI k/\k<=n/\Hid (dN e E id ps w3 k e' wr)) (λi _=>n - (wo i).toNat);case atStart=>exact ⟨0,e,rfl,yb _,ca⟩
 case round=>
  have eo:=l;obtain ⟨k,e',rfl,hk,l⟩:=hrel;by_cases ao:k<n;·
   have d1:decide ((k:Int) < (n:Int)):=by simp;omega
   have bS:decide (k<n):=by simp;omega
   have ej:lg.wrap ((k:Int) +1)= ((k+1:Nat):Int):=by rw [rr _ (by omega)];rfl
   have k0:(0:Int)<=(k:Int):=by omega
   have k2:(k:Int) < (n:Int):=by omega
   have HK:=hT ao;have HKP:Hid (k<ps.length):=hT (by rw [<-C.out];exact ao);obtain ⟨hp,g0⟩:=dw.out e' k wr l.out k HKP.out;have cf:Hid (∀wa w2,zB wr wa->aT e' ((au E id ps k).1.bK id (ps[k]'HKP.out).c).1 wa w2->(au E id ps (k+1)= (au E id ps k).1.bK id (ps[k]'HKP.out).c)/\aT e (au E id ps (k+1)).1 w3 w2/\(((au E id ps k).1.bK id (ps[k]'HKP.out).c).2= true->∃e2,dN e E id ps w3 (k+1) e2 w2)):=hT λwa w2 hba hg=>(l.out.below hba).next HKP.out cu.out hg;have bl:=hT (MG.out w3 k e' wr l.out);have bg:=hT (λwa (f:zB wr wa)=>PL.out w3 k HKP.out e' wa (l.out.below f));generalize ((ps[k]'HKP.out).c:Int)= cc at g0 bg;generalize ((au E id ps k).1.al:Int)= mg at bl;subst hp;go_wp2_with fail;refine zg bl.out λwa f=>?_;have dT:=hT f;have bX:=hT (bg.out wa f);clear f;go_wp2_with fail;refine zg bX.out λw5 hg=>?_;have J:=hT (cf.out wa w5 dT.out hg);clear hg;cases j:((au E id ps k).1.bK id (ps[k]'HKP.out).c).2 with
    | true =>
    obtain ⟨e2,o⟩:=J.out.2.2 j;have bq:=hT o;clear j o;go_wp2_with fail;go_roundw;case rel=>exact ⟨k+1,e2,by go_num,by have:=HK.out;omega,bq⟩
    case measure=>have:=HK.out;simp [wo];omega
    | false => have K:Hid ((au E id ps ps.length).2= false/\aT e (au E id ps ps.length).1 w w5):=hT (by obtain ⟨a1,a2,_⟩:=J.out;have a2:=aT.below H.out a2;have ab:=Qh (D:=E) (id:=id) (ps:=ps) (k:=k+1) (by rw [a1];exact j) (ps.length - (k+1));rw [show k+1+ (ps.length - (k+1))= ps.length by have:=HKP.out;omega]at ab;rw [ab];exact ⟨by rw [a1];exact j,a2⟩);clear j;go_wp2_with fail;go_ret;exact .inr ⟨K.out.1,rfl,K.out.2⟩
  ·have d1:decide ((k:Int) < (n:Int))= false:=by simp;omega
   have bS:decide (k<n)= false:=by simp;omega
   obtain rfl:k= n:=by omega
   have V:=hT l.out;have HK:=C;obtain ⟨E2,A⟩:=eX1 ((au E id ps ps.length).1);have j:(au E id ps ps.length).2:=by rw [<-HK.out];exact V.out.ok
   have cb:=hT j;have x:Ek wr e' E2:=by rw [A,<-HK.out];exact V.out.ek
   have dm:=hT x;have bt:=hT A;have bb:=bs.out E2 A j;obtain ⟨na,nb,nc⟩:=cg.out;obtain ⟨-, -, -, -,y4, -, -⟩:=x.at u;have yf:=x.ig (4+kk*7+4);rw [V.out.q]at y4 yf;have t:(Om.B (E2.one kk).b).size= 64*E.n:=by rw [Om.aG,bb]
   obtain ⟨O,hO⟩:=eX1 (Om.B (E2.one kk).b);rw [<-hO]at t y4;obtain ⟨sp,ad⟩:=eX1 (So.splice (E2.one kk).b D a);have bm:=hT ad;obtain ⟨F,hF⟩:=eX1 (64*a);obtain ⟨S,hS⟩:=eX1 (64*E.n);have bf:=cm.out;rw [<-hS]at t;have eg:lg.wrap (64* (a:Int))= (F:Int):=by rw [hF,rr _ (by omega)];omega
   obtain ⟨Z,hZ⟩:=eX1 (F+L);have ef:lg.wrap ((F:Int) + (L:Int))= (Z:Int):=by rw [rr _ (by omega)];omega
   have l1:(F:Int)<=(S:Int):=by omega
   have l2:(Z:Int)<=(S:Int):=by omega
   have l3:(0:Int)<=(F:Int):=by omega
   have l4:(0:Int)<=(Z:Int):=by omega
   obtain ⟨T1,z⟩:=eX1 (O.extract 0 F);obtain ⟨T2,y⟩:=eX1 (O.extract Z S);have z1:T1.size= F:=by rw [z,Vu,t];omega
   have z2:T2.size= S - Z:=by rw [y,Vu,t];omega
   have q3:¬9223372036854775807<T1.size+L+T2.size:=by rw [z1,z2];omega
   have ei:¬9223372036854775807<T1.size+L:=by rw [z1];omega
   have HT:Hid (T1 ++ B ++ T2= Om.B sp):=hT (by
    have e2:T2= Om.B ((E2.one kk).b.drop Z):=by rw [y,<-t,Om.j_,hO,Om.fx]
    have e1:T1= Om.B ((E2.one kk).b.take F):=by rw [z,hO,Og.qN]
    rw [e1,e2,eb.out,Om.fy,Om.fy,bm.out];unfold So.splice;rw [nc,hZ,hF,bf]);have ey:=z.symm;have et:=y.symm;have ec:Hid (∀w2,zB wr w2->aT e ((au E id ps ps.length).1.set kk {(au E id ps ps.length).1.one kk with b:=So.splice ((au E id ps ps.length).1.one kk).b D a}) w (w2.setCell ⟨e.q,4+kk*7+4,none⟩ (.string (Om.B sp)))):=hT λw2 f=>by have h2:=dm.out.below f;have:=h2.BK u sp;rw [V.out.q,bt.out]at this;rw [bm.out,bt.out]at this⊢;exact aT.below H.out ⟨e',this,V.out.q,(V.out.fr.trans (ae.Fr.ax f) λ_ _ h=>h).trans (ae.Fr.setCell (F:=e.fp) (ae.Fr.refl _ _) ⟨e.q,4+kk*7+4,none⟩ (.inl rfl) _) λ_ _ h=>h,V.out.fp⟩
   clear hF hS bf hZ z y z1 z2 hO ad x A j bb na nb nc;go_wp2_with fail;refine jE 19 (by kernel_rfl) (by kernel_rfl) ?_;intro w2 o;have z4:w2.cell? ⟨e.q,4+kk*7+4,none⟩= some (.string O):=by rw [o.out];exact y4
   have zf:w2.frozen? ⟨e.q,4+kk*7+4,none⟩= false:=by rw [o.out];exact yf
   have ea:Hid (zB wr w2):=hT (by rw [o.out];exact zR.drew);clear o y4 yf;simp only [UZ,Tj,U0,TA];repeat still_step
   refine wpStill_nil ?_;have M:=hT (ec.out w2 ea.out);rw [<-HT.out]at M;go_wp2_with fail;go_ret;exact .inl ⟨cb.out,rfl,M.out⟩
end Sn
end
end Go.Proofs.YtchihokmgmchcaaGreat
