/- G1, of the proof -/
import Derived.Test.YtchihokmgmchcaaGreatSrF1
import Derived.Test.YtchihokmgmchcaaGreatSq0K
import Derived.Shelf.SlSortCmp.NoneTotal
set_option linter.unusedVariables false
set_option maxRecDepth 100000
set_option maxHeartbeats 4000000
namespace Go.Proofs.YtchihokmgmchcaaGreat
open Go.Proofs.Tryz
open Bool renaming and_eq_true->N6,and_false->UX,false_and->T5,not_eq_true->U2
open List renaming Perm->UF,append_assoc->NR,append_nil->Uj,append_toArray->U8,cons_append->TN,drop_eq_getElem_cons->UM,getElem?_eq_some_iff->C2,getElem?_take->TQ,getElem_mem->SR,getElem_of_mem->Ug,length_append->DC,length_cons->Tl,length_eq_zero_iff->Wb,length_nil->Un,length_reverse->Xf,length_singleton->T3,mem_append->RR,mem_cons->T_,mem_singleton->H5,nil_append->TJ,pairwise_cons->Vw,pairwise_iff_getElem->Ub,pairwise_singleton->Xc,push_toArray->U7,reverse_cons->Wc,size_toArray->Uh,take_succ_eq_append_getElem->TD
open List.Pairwise renaming nil->Xb
open Nat renaming le_refl->nm,le_trans->A6,lt_of_lt_of_le->ti,mod_two_eq_zero_or_one->Yo,reduceAdd->U3,reduceSub->U4,zero_add->TP,zero_le->yb
open Int renaming le_refl->T9,toNat_of_nonneg->Xd
open Go.Obj renaming cells->hV
open _root_.Array renaming extract_size->Yr,getElem?_eq_some_iff->DN,length_toList->VH,replicate_succ->U5,replicate_zero->U6
open Go.Lib renaming hid->hT
open Go.IntKind renaming i64->lg,wrap_i64->Xg
open Go.IntWalk renaming i64_in->rr
open Go.Ending renaming returned->nf
open Go.Value renaming ownBlock->TS,slice->AF,tuple->CE
open Go.World renaming grownBy_alloc->Wa,ownsRow_nil->Ts
open Go.RowKit renaming intOf->CS
open Go.Oper renaming semAt_some->Ue
open Go.Fence renaming wide->TT
open Go.Boxed renaming new->UE
open Go.RowKit.Below renaming heap_setCell->L2
open Go.KeepsOthers renaming alloc->W_,setCell->Wd
open Go.Result renaming andThen->Ty
section
namespace Xm
def dW (s l:Int):Bool:=decide (0<=s) && decide (s<=1048576) && decide (0<=l) && decide (l<=1048576)
variable{s l:Int}
theorem fo :dW s l= true↔0<=s/\s<=1048576/\0<=l/\l<=1048576:=by unfold dW;simp [N6,and_assoc]
def bH (s l:Int) (x:Int×Int):Bool:=decide (1<=x.2) && decide (s<=x.1) && decide (x.2<=s+l - x.1)
theorem eV {x:Int×Int}:bH s l x= true↔1<=x.2/\s<=x.1/\x.1+x.2<=s+l:=by
 unfold bH;simp only [N6,decide_eq_true_eq];constructor;· rintro ⟨⟨a,b⟩,c⟩;exact ⟨a,b,by omega⟩
 ·rintro ⟨a,b,c⟩;exact ⟨⟨a,b⟩,by omega⟩
def dM (a b:Int×Int):Prop:=a.1+a.2<=b.1\/b.1+b.2<=a.1
instance (a b:Int×Int):Decidable (dM a b):=by unfold dM;exact inferInstance
theorem dM.symm {a b:Int×Int} (h:dM a b):dM b a:=Or.symm h
def Ok (s l:Int) (u:zX):Prop:=dW s l= true/\(∀x∈u,bH s l x= true)/\u.Pairwise dM
instance (s l:Int) (u:zX):Decidable (Ok s l u):=by unfold Ok;exact inferInstance
def aU (s l:Int) (u:zX):Bool:=decide (Ok s l u)
variable{u:zX}
theorem iO :aU s l u= true↔Ok s l u:=by simp [aU]
theorem Ok.perm {v:zX} (h:Ok s l u) (p:UF u v):Ok s l v:= ⟨h.1,λx hx=>h.2.1 x (p.mem_iff.2 hx),(p.pairwise_iff (λ{_ _} h=>dM.symm h)).1 h.2.2⟩
def jm (u:zX):Prop:=u.Pairwise λa b=>a.1+a.2<=b.1
theorem AY:∀(u:zX),(∀x∈u,1≤x.2)→(∀i (h:i+1<u.length),(u[i]'(by omega)).1+ (u[i]'(by omega)).2≤u[i+1].1)→jm u
  | [],_,_=>Xb
  | [x],_,_=>Xc _ _
  | x :: y :: r, h1, h2 => by
    have b:=AY (y :: r) (fun z a=>h1 z (List.mem_cons_of_mem _ a)) (fun i h=>by have:=h2 (i+1) (by simp at h⊢;omega);simpa using this)
    have c:x.1+x.2≤y.1:=by have:=h2 0 (by simp);simpa using this
    have d:=h1 y (by simp)
    refine Vw.2 ⟨fun z a=>?_,b⟩
    rcases T_.1 a with rfl|a
    · exact c
    · have:=(Vw.1 b).1 z a;omega
theorem M6 (h:jm u):u.Pairwise dM:=List.Pairwise.imp (λh=>Or.inl h) h
theorem M7 (h1:∀x∈u,1<=x.2) (d:∀i j (f:j<u.length) (e:i<j),(u[i]'(by omega)).1<=u[j].1) (hp:u.Pairwise dM) (i:Nat) (h:i+1<u.length):(u[i]'(by omega)).1+ (u[i]'(by omega)).2<=u[i+1].1:=by
 have a:=Ub.1 hp i (i+1) (by omega) h (by omega);have b:=d i (i+1) h (by omega);have c:=h1 _ (SR h);rcases a with a|a;· exact a
 ·omega
def has (u:zX) (t:Int):Bool:=u.any λx=>decide (x.1<=t) && decide (t<x.1+x.2)
theorem cO {t:Int}:has u t= true↔∃x∈u,x.1<=t/\t<x.1+x.2:=by unfold has;simp [List.any_eq_true]
theorem qX {t:Int}:has u t= false↔∀x∈u,¬(x.1<=t/\t<x.1+x.2):=by rw [<-U2,cO];simp
theorem M8 {v:zX} (p:UF u v):has u= has v:=by
 funext t;rw [Bool.eq_iff_iff,cO,cO];constructor;· rintro ⟨x,a,h⟩;exact ⟨x,p.mem_iff.1 a,h⟩
 ·rintro ⟨x,a,h⟩;exact ⟨x,p.mem_iff.2 a,h⟩
theorem M9 (u v:zX) (t:Int):has (u ++ v) t= (has u t || has v t):=by simp [has]
theorem M_ (x:Int×Int) (v:zX) (t:Int):has (x :: v) t= (decide (x.1<=t) && decide (t<x.1+x.2)|| has v t):=by simp [has]
def put (a:zX) (b:Bool) (t:Int):zX:= match a,b with
 | x :: r,true=>(x.1,x.2+1) :: r
 | r,_=>(t,1) :: r
theorem qY (x:Int×Int) (r:zX) (t:Int):put (x :: r) true t= (x.1,x.2+1) :: r:=rfl
theorem qZ (a:zX) (t:Int):put a false t= (t,1) :: a:=by cases a<;>rfl
def acc (h:Int->Bool) (s:Int):Nat->List (Int×Int)×Bool
 | 0=>([],false)
 | n+1=>if h (s+ (n:Int)) then ((acc h s n).1,false) else (put (acc h s n).1 (acc h s n).2 (s+ (n:Int)),true)
variable{h:Int→Bool}
theorem oJ {n:Nat} (e:h (s+ (n:Int))):acc h s (n+1)= ((acc h s n).1,false):=by rw [acc,if_pos e]
theorem q_ {n:Nat} (e:h (s+ (n:Int))= false):acc h s (n+1)= (put (acc h s n).1 (acc h s n).2 (s+ (n:Int)),true):=by rw [acc,if_neg (by rw [e];decide)]
structure Acc (h:Int->Bool) (s:Int) (n:Nat) (a:zX) (b:Bool):Prop where
 len:a.length<=n
 head:b= true->∃x t,a= x :: t/\x.1+x.2= s+n
 each:∀g∈a,1<=g.2/\s<=g.1/\g.1+g.2<=s+n/\∀t,g.1<=t->t<g.1+g.2->h t= false
 all:∀t,s<=t->t<s+n->h t= false->∃g∈a,g.1<=t/\t<g.1+g.2
 uM:a.Pairwise λ y x=>x.1+x.2<=y.1
theorem ra (h:Int->Bool) (s:Int) (n:Nat):Acc h s n (acc h s n).1 (acc h s n).2:=by induction n with
 | zero=>exact ⟨nm _,λe=>(by cases e),λg c=>(by cases c),λt h1 d=>(by omega),Xb⟩
 | succ n ih => cases hh:h (s+ (n:Int)) with
 | true =>
 rw [oJ hh];generalize (acc h s n).1= a at ih;generalize (acc h s n).2= b at ih;refine ⟨by have:=ih.len;show a.length<=_;omega,λe=>(by cases e),λg c=>?_,λt h1 d h3=>?_,ih.uM⟩;· obtain ⟨c1,c2,c3,c4⟩:=ih.each g c;exact ⟨c1,c2,by push_cast;omega,c4⟩
 ·by_cases e:t= s+n;· rw [e,hh]at h3;cases h3
  ·exact ih.all t h1 (by push_cast at d;omega) h3
 | false => rw [q_ hh];generalize (acc h s n).1= a at ih;generalize (acc h s n).2= b at ih;cases b with
 | true =>
 obtain ⟨x,t,rfl,l⟩:=ih.head rfl;obtain ⟨c1,c2,c3,c4⟩:=ih.each x (by simp);rw [qY];refine ⟨by have:=ih.len;simp at this⊢;omega,λ_=>⟨_,_,rfl,by show x.1+ (x.2+1)= s+ ((n+1:Nat):Int);push_cast;omega⟩,λg c=>?_,λq h1 d h3=>?_,?_⟩;·
  rcases T_.1 c with rfl|c;·
   refine ⟨by show 1<=x.2+1;omega,c2,by show x.1+ (x.2+1)<=s+ ((n+1:Nat):Int);push_cast;omega,λq h1 d=>?_⟩;have h1:x.1<=q:=h1;have d:q<x.1+ (x.2+1):=d;by_cases e:q= s+n;· rw [e];exact hh
   ·exact c4 q h1 (by omega)
  ·obtain ⟨d1,d2,d3,i⟩:=ih.each g (by simp [c]);exact ⟨d1,d2,by push_cast;omega,i⟩
 ·by_cases e:q= s+n;· exact ⟨(x.1,x.2+1),by simp,by show x.1<=q;omega,by show q<x.1+ (x.2+1);omega⟩
  ·obtain ⟨g,c,f⟩:=ih.all q h1 (by push_cast at d;omega) h3;rcases T_.1 c with rfl|c;· exact ⟨(g.1,g.2+1),by simp,f.1,by show q<g.1+ (g.2+1);omega⟩
   ·exact ⟨g,by simp [c],f⟩
 ·obtain ⟨k,j⟩:=Vw.1 ih.uM;exact Vw.2 ⟨λz hz=>k z hz,j⟩
 | false =>
 rw [qZ];refine ⟨by have:=ih.len;simp;omega,λ_=>⟨_,_,rfl,by show s+ (n:Int) +1= s+ ((n+1:Nat):Int);push_cast;omega⟩,λg c=>?_,λq h1 d h3=>?_,?_⟩;·
  rcases T_.1 c with rfl|c;·
   refine ⟨T9 _,by show s<=s+ (n:Int);omega,by show s+ (n:Int) +1<=s+ ((n+1:Nat):Int);push_cast;omega,λq h1 d=>?_⟩;have h1:s+ (n:Int)<=q:=h1;have d:q<s+ (n:Int) +1:=d;have e:q= s+n:=by omega
   rw [e];exact hh
  ·obtain ⟨d1,d2,d3,i⟩:=ih.each g c;exact ⟨d1,d2,by push_cast;omega,i⟩
 ·by_cases e:q= s+n;· exact ⟨(s+ (n:Int),1),by simp,by show s+ (n:Int)<=q;omega,by show q<s+ (n:Int) +1;omega⟩
  ·obtain ⟨g,c,f⟩:=ih.all q h1 (by push_cast at d;omega) h3;exact ⟨g,by simp [c],f⟩
 ·exact Vw.2 ⟨λz hz=>(ih.each z hz).2.2.1,ih.uM⟩
def bF (s l:Int) (u:zX):zX:=(acc (has u) s l.toNat).1.reverse
theorem Na {v:zX} (p:UF u v):bF s l u= bF s l v:=by unfold bF;rw [M8 p]
def along (next e:Int):zX->List (Int×Int)
 | []=>if next<e then [(next,e - next)]else []
 | x :: r=>(if next<x.1 then [(next,x.1 - next)]else []) ++ along (x.1+x.2) e r
theorem AZ (h:Int->Bool) (s:Int) (n:Nat) (c:(acc h s n).2= false) (m:Nat) (hm:∀k:Nat,k<m->h (s+n+k)= false):acc h s (n+m)= if m= 0 then acc h s n else ((s+ (n:Int),(m:Int)) :: (acc h s n).1,true):=by induction m with
 | zero=>rfl
 | succ m a =>
 have a:=a λk hk=>hm k (by omega);rw [if_neg (by omega),<-Nat.add_assoc];have b:h (s+ ((n+m:Nat):Int))= false:=by have:=hm m (by omega);rw [Int.add_assoc]at this;push_cast;exact this
 rw [q_ b,a];cases m with
  | zero=>rw [if_pos rfl,c,qZ];rfl
  | succ m=>rw [if_neg (by omega),qY];push_cast;rfl
theorem Nb (h:Int->Bool) (s:Int) (n:Nat) (m:Nat) (hm:∀k:Nat,k<m+1->h (s+n+k)):acc h s (n+ (m+1))= ((acc h s n).1,false):=by induction m with
 | zero =>
 have b:h (s+ (n:Int)):=by have:=hm 0 (by omega);simpa using this
 exact oJ b
 | succ m a =>
 have a:=a λk hk=>hm k (by omega);have b:h (s+ ((n+ (m+1):Nat):Int)):=by have:=hm (m+1) (by omega);rw [Int.add_assoc]at this;push_cast at this⊢;exact this
 show acc h s (n+ (m+1) +1)= _;rw [oJ b,a]
theorem A1 (h:Int→Bool) (s:Int) (N:Nat):∀(r:zX) (n:Nat),n≤N→(acc h s n).2= false→jm r→(∀x∈r,1≤x.2∧s+n≤x.1∧x.1+x.2≤s+N)→(∀t,s+n≤t→h t= has r t)→
    (acc h s N).1.reverse= (acc h s n).1.reverse ++ along (s+n) (s+N) r
  | [], n, hn, hb, _, _, hh => by
    obtain ⟨m,rfl⟩:∃m,N= n+m:=⟨N - n,by omega⟩
    rw [AZ h s n hb m fun k hk=>by rw [hh _ (by omega)];rfl]
    unfold along
    cases m with
    | zero=>rw [if_pos rfl,if_neg (by push_cast;omega)];simp
    | succ m =>
      rw [if_neg (by omega),if_pos (by push_cast;omega)]
      simp
      push_cast;omega
  | x :: r, n, hn, hb, hr, hx, hh => by
    obtain ⟨u,p,o⟩:=hx x (by simp)
    obtain ⟨m,hm⟩:∃m:Nat,x.1= s+n+m:=⟨(x.1 - (s+n)).toNat,by omega⟩
    obtain ⟨q,v⟩:∃q:Nat,x.2= (q+1:Nat):=⟨(x.2 - 1).toNat,by omega⟩
    obtain ⟨b,i⟩:=Vw.1 hr
    have f:=AZ h s n hb m fun k hk=>by
      rw [hh _ (by omega),qX]
      intro y a
      rcases T_.1 a with rfl|a
      · omega
      · have:=b y a;omega
    have g:=Nb h s (n+m) q fun k hk=>by
      rw [hh _ (by push_cast;omega),cO]
      exact ⟨x,by simp,by push_cast;omega,by push_cast;omega⟩
    have j:=A1 h s N r (n+m+ (q+1)) (by push_cast at *;omega) (by rw [g]) i (fun y a=>by
      obtain ⟨d,l,c⟩:=hx y (by simp [a])
      have:=b y a
      exact ⟨d,by push_cast;omega,c⟩) (fun t ht=>by
      rw [hh t (by push_cast at ht;omega),M_]
      have:decide (t<x.1+x.2)= false:=by simp;push_cast at ht;omega
      rw [this];simp)
    rw [j,g]
    have e:s+ ((n+m+ (q+1):Nat):Int)= x.1+x.2:=by push_cast;omega
    rw [e,along,f]
    cases m with
    | zero=>rw [if_pos rfl,if_neg (by omega)];simp
    | succ m =>
      rw [if_neg (by omega),if_pos (by push_cast at hm;omega)]
      simp
      omega
theorem A4 {v:zX} (h:Ok s l u) (p:UF u v) (e:jm v):along s (s+l) v= bF s l u:=by obtain ⟨g1,g2,g3,g4⟩:=fo.1 h.1;have d:=h.perm p;have:=A1 (has v) s l.toNat v 0 (yb _) rfl e (λx hx=>by obtain ⟨a,b,c⟩:=eV.1 (d.2.1 x hx);exact ⟨a,by simpa using b,by rw [Xd g3];exact c⟩) (λ_ _=>rfl);rw [Na p];unfold bF;rw [this,Xd g3];simp [acc]
def iP (h:Int->Bool) (s:Int):Nat->Nat
 | 0=>0
 | n+1=>iP h s n+if h (s+n) then 0 else 1
def di:zX->Int
 | []=>0
 | x :: r=>x.2+di r
theorem uN (a b:zX):di (a ++ b)= di a+di b:=by induction a with
 | nil=>simp [di]
 | cons x a ih=>simp only [TN,di,ih];omega
theorem Nc (a:zX):di a.reverse= di a:=by induction a with
 | nil=>rfl
 | cons x a ih=>rw [Wc,uN,ih];simp only [di];omega
theorem Nd (h:Int->Bool) (s:Int) (n:Nat):di (acc h s n).1= iP h s n:=by induction n with
 | zero=>rfl
 | succ n ih => have hd:=(ra h s n).head;cases hh:h (s+ (n:Int)) with
 | true=>rw [oJ hh,iP,hh];simpa using ih
 | false => rw [q_ hh,iP,hh];generalize (acc h s n).1= a at ih hd;generalize (acc h s n).2= b at hd;cases b with
 | true => obtain ⟨x,t,rfl,_⟩:=hd rfl;rw [qY];simp only [di]at ih⊢;simp;omega
 | false=>rw [qZ];simp only [di];simp;omega
def free (s l:Int) (u:zX):Int:=di (bF s l u)
theorem uO (s l:Int) (u:zX):free s l u= iP (has u) s l.toNat:=by unfold free bF;rw [Nc,Nd]
theorem Nf (h:Int->Bool) (s:Int) (n:Nat):iP h s n<=n:=by induction n with
 | zero=>exact nm _
 | succ n ih=>unfold iP;split<;>omega
theorem Ng (h h':Int->Bool) (s a:Int) (k:Nat) (e:s<=a) (d:∀t,a<=t->t<a+k->h t= false) (c:∀t,h' t= (h t || (decide (a<=t) && decide (t<a+k)))) (n:Nat): (iP h s n:Int)= iP h' s n+ (if s+ (n:Int)<=a then 0 else if a+k<=s+ (n:Int) then (k:Int) else s+ (n:Int) - a):=by induction n with
 | zero=>unfold iP;rw [if_pos (by simpa using e)];rfl
 | succ n ih =>
 unfold iP;rw [c];by_cases h1:a<=s+n;·
  by_cases b:s+ (n:Int) <a+k;· rw [d _ h1 b,decide_eq_true h1,decide_eq_true b];rw [if_neg (show¬s+ ((n+1:Nat):Int)<=a by push_cast;omega)];simp only [Bool.false_or,Bool.and_self,if_true,Bool.false_eq_true,if_false];split at ih<;>split<;>(try split at ih)<;>push_cast at*<;>omega
  ·rw [decide_eq_false b];rw [if_neg (show¬s+ ((n+1:Nat):Int)<=a by push_cast;omega),if_pos (show a+ (k:Int)<=s+ ((n+1:Nat):Int) by push_cast;omega)];simp only [UX,Bool.or_false];split at ih<;>(try split at ih)<;>(split<;>push_cast at*<;>omega)
 ·rw [decide_eq_false h1];rw [if_pos (show s+ ((n+1:Nat):Int)<=a by push_cast;omega)];rw [if_pos (by omega)]at ih;simp only [T5,Bool.or_false];split<;>push_cast at*<;>omega
open Go.RowKit
def Bx (w:World) (b:Nat) (s l:Int):Prop:=w.heap[b]?= some (hV #[zI s,zI l] 65 (0,0))
variable{w:World}{b:Nat}
theorem Bx.lt (h:Bx w b s l):b<w.heap.size:=(DN.1 h).1
theorem Bx.next {w':World} (h:Bx w b s l) (hb:zB w w'):Bx w' b s l:=(hb.block b h.lt).trans h
theorem Bx.below {w':World} {B:Nat} (h:Bx w b s l) (hb:Below B w w') (hB:b<B):Bx w' b s l:=(hb.block b hB).trans h
theorem Bx.c0 (h:Bx w b s l):w.cell? (zD b 0)= some (zI s):=zW h
theorem Bx.c1 (h:Bx w b s l):w.cell? (zD b 1)= some (zI l):=zW h
theorem Bx.new (w:World) (s l:Int):Bx (w.alloc (zE s l 65)) w.heap.size s l:=heap_alloc_new _ _
theorem b_ (w:World) (o:Obj):zB w (w.alloc o):=zA
theorem oK {B:Nat} {a:World} (h:Below B a w) (n:Nat):Below B a (w.drewN n):=⟨h.os,h.tape,h.output,h.size,h.block⟩
theorem nW (w:World) (a b s l:Int) (W0:World) (h:(w.alloc (zE a b 65)).alloc (zE s l 65)= W0): zB w W0/\Bx W0 w.heap.size a b/\Bx W0 (w.heap.size+1) s l/\W0.heap.size= w.heap.size+2:=by
 subst h;have h1:=Bx.new w a b;have c:=Bx.new (w.alloc (zE a b 65)) s l;have d:(w.alloc (zE a b 65)).heap.size= w.heap.size+1:=by simp
 rw [d]at c;exact ⟨(b_ w _).alloc (by simp) _,h1.next (b_ _ _),c,by simp⟩
def bd (w:World) (p:Option Addr) (u:zX):Prop:=u≠ []->∃b off,p= some ⟨b,off,none⟩/\b<w.heap.size/\ ∀i (h:i<u.length),w.cell? ⟨b,off+i*2,none⟩= some (zI u[i].1)/\w.cell? ⟨b,off+i*2+1,none⟩= some (zI u[i].2)
variable{p:Option Addr}
theorem bd.keep {w':World} (h:bd w p u) {B:Nat} (d:w.heap.size<=w'.heap.size) (hk:∀q:Addr,q.block<w.heap.size->w'.cell? q= w.cell? q):bd w' p u:=λhn=>by obtain ⟨b,off,e,c,a⟩:=h hn;exact ⟨b,off,e,by omega,λi hi=>⟨(hk ⟨b,_,none⟩ c).trans (a i hi).1,(hk ⟨b,_,none⟩ c).trans (a i hi).2⟩⟩
theorem bd.next {w':World} (h:bd w p u) (hb:zB w w'):bd w' p u:=h.keep (B:=0) hb.size λ_ hq=>hb.cell hq
theorem bd.nil (w:World) (p:Option Addr):bd w p []:=λh=>(h rfl).elim
def cells (l:zX):List Value:=l.flatMap λx=> [zI x.1,zI x.2]
theorem gk (l:zX):(cells l).length= l.length*2:=by unfold cells;induction l with
 | nil=>rfl
 | cons x l ih=>simp only [List.flatMap_cons,DC,ih,Tl,Un];omega
theorem mU (l r:zX):cells (l ++ r)= cells l ++ cells r:=by simp [cells]
theorem cells_one (x:Int×Int):cells [x]= [zI x.1,zI x.2]:=by simp [cells]
theorem uP (l:zX) (i:Nat) (h:i<l.length):(cells l)[i*2]?= some (zI l[i].1)/\(cells l)[i*2+1]?= some (zI l[i].2):=by induction l generalizing i with
 | nil=>simp at h
 | cons x l ih => have e:cells (x :: l)= zI x.1 :: zI x.2 :: cells l:=rfl;rw [e];cases i with
 | zero=>simp
 | succ i => have:=ih i (by simpa using h);rw [show (i+1) *2= i*2+1+1 by omega];simpa using this
theorem kG (l:zX) (j:Nat) (v:Value) (h:(cells l)[j]?= some v):∃i,∃(hi:i<l.length),(j= i*2/\v= zI l[i].1)\/(j= i*2+1/\v= zI l[i].2):=by
 have b:=(C2.1 h).1;rw [gk]at b;obtain ⟨a,h1⟩:=uP l (j / 2) (by omega);refine ⟨j / 2,by omega,?_⟩;rcases Yo j with e|e;·
  have e':j / 2*2= j:=by omega
  rw [e',h]at a;exact .inl ⟨e'.symm,by simpa using a⟩
 ·have e':j / 2*2+1= j:=by omega
  rw [e',h]at h1;exact .inr ⟨e'.symm,by simpa using h1⟩
theorem Nh (l:zX):∀v∈cells l,v.oneCell'= true:=by intro v a;obtain ⟨j,b,e⟩:=Ug a;obtain ⟨i,hi,⟨_,rfl⟩|⟨_,rfl⟩⟩:=kG l j v (by rw [List.getElem?_eq_getElem b,e])<;>rfl
theorem bd.news (h:bd w p u) (c:u≠ []):∃b off,p= some ⟨b,off,none⟩/\b<w.heap.size/\∀j v,(cells u)[j]?= some v->w.cell? ⟨b,off+j,none⟩= some v:=by
 obtain ⟨b,off,e,d,a⟩:=h c;refine ⟨b,off,e,d,λj v hv=>?_⟩;obtain ⟨i,hi,⟨rfl,rfl⟩|⟨rfl,rfl⟩⟩:=kG u j v hv;· exact (a i hi).1
 ·exact (a i hi).2
theorem bd.own {base:Nat} {v:Value} {l:zX} (h:w.ownsRow base 65 2 v l.length (cells l)):∃p c,v= .slice p l.length c/\bd w p l:=by
 by_cases e:l= [];·
  subst e;rcases h.2 with ⟨h1,k⟩|⟨g,cap,cur,rfl,_⟩;· exact ⟨none,0,h1,bd.nil _ _⟩
  ·exact ⟨_,cap,rfl,bd.nil _ _⟩
 ·rcases h.2 with ⟨_,k⟩|⟨g,cap,cur,rfl,o,f,h1,r,q,n⟩;· exact (e (Wb.1 k)).elim
  ·refine ⟨_,cap,rfl,λ_=>⟨g,0,rfl,(DN.1 f).1,λi hi=>?_⟩⟩;have hp:=gk l;have get:∀j x,(cells l)[j]?= some x->w.cell? ⟨g,0+j,none⟩= some x:=λj x hj=>by rw [TP,cell_of_row _ _ _ _ _ _ f];have m:=(C2.1 hj).1;have d:=hj;rw [<-n,TQ,if_pos (by omega)]at d;simpa using d
   obtain ⟨a,b⟩:=uP l i hi;exact ⟨get _ _ a,get _ _ b⟩
theorem rb:(prog.info? 65).map (λi=>(i.zero,i.size,i.bytes))= some (some (zM 0 0),2,16):=by kernel_rfl
open Go.RowKit
theorem rv (a b:Int) (w:World) (h1: -9223372036854775808<=a+b) (d:a+b<=9223372036854775807):zF 190 #[zM a b] w (zJ (zI (a+b)) w):=by have e:=hT (b_ w (zE a b 65));have c:=Bx.new w a b;have c0:=c.c0;have c1:=c.c1;have f:lg.wrap (a+b)= a+b:=rr _ (by omega);clear c h1 d;go_enter func190,ntmps190;go_wp2_with fail;go_ret;exact ⟨rfl,e.out⟩
theorem Bc (s l:Int) (w:World):zF 184 #[zM s l] w (zJ (.bool (dW s l)) w):=by have c:=hT (b_ w (zE s l 65));have a:=Bx.new w s l;have c0:=a.c0;have c1:=a.c1;clear a;cases h1:decide (0<=s)<;>cases h2:decide (s<=1048576)<;>cases h3:decide (0<=l);all_goals have b:=hT (show dW s l= _ by unfold dW;rw [h1,h2,h3]);simp only [Bool.true_and,T5,UX,Bool.and_true]at b;go_enter func184,ntmps184;go_wp2_with fail;go_ret;exact ⟨by rw [b.out];rfl,c.out⟩
theorem mA (a b s l:Int) (w:World) (u:a<=9223372036854775807) (k:dW s l):zF 185 #[zM a b, zM s l] w (zJ (.bool (bH s l (a,b))) w):=by obtain ⟨t,r,q,o⟩:=fo.1 k;obtain ⟨v,c⟩:=eX2 ((w.alloc (zE a b 65)).alloc (zE s l 65));obtain ⟨m,f,e,d⟩:=nW w a b s l v c;have n:=hT m;have y:=f.c0;have a1:=f.c1;have x:=e.c0;have b1:=e.c1;have j:=f.lt;have i:=e.lt;have C:=hT (λw1=>rv s l w1 (by omega) (by omega));cases h1:decide (1<=b) with
 | false => have g:=hT (show bH s l (a,b)= false by unfold bH;rw [show decide (1<=(a,b).2)= false from h1];rfl);clear m f e d t r q o k u j i;go_enter func185,ntmps185;go_wp2_with fail;clear c;go_quiet (fail);go_wp2_with fail;go_ret;exact ⟨by rw [g.out];rfl,oK n.out _⟩
 | true => cases h2:decide (s<=a) with
 | false => have g:=hT (show bH s l (a,b)= false by unfold bH;rw [show decide (s<=(a,b).1)= false from h2];simp);clear m f e d t r q o k u j i;go_enter func185,ntmps185;go_wp2_with fail;clear c;go_quiet (fail);go_wp2_with fail;go_ret;exact ⟨by rw [g.out];rfl,oK n.out _⟩
 | true => have g:=hT (show bH s l (a,b)= decide (b<=s+l - a) by unfold bH;rw [show decide (s<=(a,b).1)= true from h2,show decide (1<=(a,b).2)= true from h1];rfl);have z:lg.wrap (s+l - a)= s+l - a:=rr _ (by simp at h2;omega);clear m f e d t r q o k u;go_enter func185,ntmps185;go_wp2_with fail;clear c;go_region_held3 (λw'=>(w'.cell? (zz w 0)= some (zI a)/\w'.cell? (zz w 1)= some (zI b))/\w'.cell? (zD (w.heap.size+1) 0)= some (zI s)/\w'.cell? (zD (w.heap.size+1) 1)= some (zI l)) (first|go_keep|(refine ⟨⟨?_,?_⟩,?_,?_⟩<;>assumption)|(exact ⟨⟨(h.out.cell (p:=(zz w 0)) j).trans y,(h.out.cell (p:=(zz w 1)) j).trans a1⟩,(h.out.cell (p:=(zD (w.heap.size+1) 0)) i).trans x,(h.out.cell (p:=(zD (w.heap.size+1) 1)) i).trans b1⟩)) (first|(go_at_call 190;refine zg (C.out _) λw2 hb2=>?_;have h:Hid (zB v w2):=zR.drew.trans hb2;clear hb2));go_wp2_with fail;go_ret;exact ⟨by rw [g.out];rfl,n.out.trans (h.out.mono n.out.size)⟩
def gX (x y:Int):Int:=if x<y then -1 else if y<x then 1 else 0
theorem NL (x:Int) (w:World):zF 229 #[zI x] w (zQ (.bool false) w):=by go_enter func229,ntmps229;go_wp2_with fail;go_ret;exact ⟨rfl,rfl⟩
theorem NM (x y:Int) (w:World):zF 189 #[zI x,zI y] w (zQ (zI (gX x y)) w):=by have N:=hT NL;cases h1:decide (x<y) with
 | true => have a:=hT (show gX x y= -1 by unfold gX;rw [if_pos (by simpa using h1)]);go_enter func189,ntmps189;go_wp2_with (go_at_call 229;refine zh (N.out _ _) ?_);go_ret;exact ⟨by rw [a.out];rfl,rfl⟩
 | false => cases h2:decide (y<x) with
 | true => have a:=hT (show gX x y= 1 by unfold gX;rw [if_neg (by simpa using h1),if_pos (by simpa using h2)]);go_enter func189,ntmps189;go_wp2_with (go_at_call 229;refine zh (N.out _ _) ?_);go_ret;exact ⟨by rw [a.out];rfl,rfl⟩
 | false => have a:=hT (show gX x y= 0 by unfold gX;rw [if_neg (by simpa using h1),if_neg (by simpa using h2)]);go_enter func189,ntmps189;go_wp2_with (go_at_call 229;refine zh (N.out _ _) ?_);go_ret;exact ⟨by rw [a.out];rfl,rfl⟩
end Xm
end
section
open Go.Shelf Go.RowKit
def NP:Go.Shelf.Ren:=⟨λ|6=>187|14=>227|15=>228|20=>259|21=>260|22=>261|23=>262|24=>263|25=>264|26=>265|27=>266|28=>267|29=>268|46=>285|47=>286|48=>287|49=>288|50=>289|57=>302|n=>n,λ|0=>0|3=>3|4=>4|5=>5|9=>9|22=>121|24=>65|25=>230|39=>259|45=>289|46=>290|50=>212|53=>66|55=>197|66=>316|70=>320|76=>334|77=>335|n=>n,λ|n=>n⟩
theorem NQ:SlLaysF0.n6 prog NP:={
 mixed:=by kernel_rfl
 f6:=⟨f187.name,by kernel_rfl,func187.trans (congrArg some (by kernel_rfl))⟩
 f14:=⟨f227.name,by kernel_rfl,func227.trans (congrArg some (by kernel_rfl))⟩
 f15:=func228.trans (congrArg some (by kernel_rfl))
 f20:=⟨f259.name,by kernel_rfl,func259.trans (congrArg some (by kernel_rfl))⟩
 f21:=⟨f260.name,by kernel_rfl,func260.trans (congrArg some (by kernel_rfl))⟩
 f22:=⟨f261.name,by kernel_rfl,func261.trans (congrArg some (by kernel_rfl))⟩
 f23:=⟨f262.name,by kernel_rfl,func262.trans (congrArg some (by kernel_rfl))⟩
 f24:=⟨f263.name,by kernel_rfl,func263.trans (congrArg some (by kernel_rfl))⟩
 f25:=⟨f264.name,by kernel_rfl,func264.trans (congrArg some (by kernel_rfl))⟩
 f26:=⟨f265.name,by kernel_rfl,func265.trans (congrArg some (by kernel_rfl))⟩
 f27:=⟨f266.name,by kernel_rfl,func266.trans (congrArg some (by kernel_rfl))⟩
 f28:=func267.trans (congrArg some (by kernel_rfl))
 f29:=func268.trans (congrArg some (by kernel_rfl))
 f46:=⟨f285.name,by kernel_rfl,func285.trans (congrArg some (by kernel_rfl))⟩
 f47:=func286.trans (congrArg some (by kernel_rfl))
 f48:=func287.trans (congrArg some (by kernel_rfl))
 f49:=⟨f288.name,by kernel_rfl,func288.trans (congrArg some (by kernel_rfl))⟩
 f50:=⟨f289.name,by kernel_rfl,func289.trans (congrArg some (by kernel_rfl))⟩
 f57:=⟨f302.name,by kernel_rfl,func302.trans (congrArg some (by kernel_rfl))⟩
 t0:=underlying0
 a0:=isAgg0
 z0:=sizeOf0
 v0:=zeroValue0
 t3:=underlying3
 a3:=isAgg3
 z3:=sizeOf3
 v3:=zeroValue3
 t4:=underlying4
 a4:=isAgg4
 z4:=sizeOf4
 v4:=zeroValue4
 t5:=underlying5
 a5:=isAgg5
 z5:=sizeOf5
 v5:=zeroValue5
 t9:=underlying9
 a9:=isAgg9
 z9:=sizeOf9
 v9:=zeroValue9
 t22:=underlying121
 a22:=isAgg121
 z22:=sizeOf121
 v22:=zeroValue121
 t25:=underlying230
 a25:=isAgg230
 z25:=sizeOf230
 v25:=zeroValue230
 t39:=underlying259
 a39:=isAgg259
 z39:=sizeOf259
 v39:=zeroValue259
 t45:=underlying289
 a45:=isAgg289
 z45:=sizeOf289
 v45:=zeroValue289
 t46:=underlying290
 a46:=isAgg290
 z46:=sizeOf290
 v46:=zeroValue290
 t50:=underlying212
 a50:=isAgg212
 z50:=sizeOf212
 v50:=zeroValue212
 t53:=underlying66
 a53:=isAgg66
 z53:=sizeOf66
 v53:=zeroValue66
 t55:=underlying197
 a55:=isAgg197
 z55:=sizeOf197
 v55:=zeroValue197
 t66:=underlying316
 a66:=isAgg316
 z66:=sizeOf316
 v66:=zeroValue316
 t70:=underlying320
 a70:=isAgg320
 z70:=sizeOf320
 v70:=zeroValue320
 t76:=underlying334
 a76:=isAgg334
 z76:=sizeOf334
 v76:=zeroValue334
 t77:=underlying335
 a77:=isAgg335
 z77:=sizeOf335
 v77:=zeroValue335}
end
section
namespace Xm
open Go.RowKit Go.Shelf Go.Sort
theorem NT (u:zX) (n:Nat) (g:n= u.length) (p:Option Addr) (c:Nat) (w:World) (h:bd w p u) (h1:n<=maxLen) (r:n*16<=140737488355328): zF 186 #[.slice p n c] w λe w'=>∃v,e= nf v/\w'.ownsRow w.heap.size 65 2 v n (cells u)/\zB w w':=by have y:∀(w:World) (a:Option Addr) (n c n' c':Nat),(binOp .eql 121 (.slice a n c) (AF none n' c')).run prog w= .ok (.bool a.isNone) w:=λw a n c n' c'=>Lib.run_eql_slice_nil w _ _ a n c n' c' underlying121;cases p with
 | none =>
 have hu:u= []:=by
  by_cases hu:u= [];· exact hu
  ·obtain ⟨_,_,e,_⟩:=h hu;cases e
 subst hu;obtain rfl:n= 0:=by simpa using g
 clear g h h1 r;go_enter func186,ntmps186;go_wp2_with fail;go_ret;exact ⟨_,rfl,Ts _ _ _ _,Below.refl _ _⟩
 | some a =>
 have B:∃b off,(a= ⟨b,off,none⟩\/n= 0)/\∀j v,(cells u)[j]?= some v->w.cell? (a.add j)= some v:=by
  by_cases hu:u= [];· subst hu;exact ⟨0,0, .inr (by simpa using g),λj v i=>by simp [cells]at i⟩
  ·obtain ⟨b,off,e,_,l⟩:=h.news hu;injection e with e;subst e;exact ⟨b,off, .inl rfl,λj v i=>by rw [Addr.add_lit];exact l j v i⟩
 obtain ⟨_,_,_,l⟩:=B;have A:=hT l;have t:=gk u;rw [<-g]at t;obtain ⟨z,hi,q,o,m⟩:=info_parts rb;have H1:=hT h1;have C:=hT r;clear l h h1 r;go_enter func186,ntmps186;go_wp2_with (at_builtin;refine wpList_append_own _ rfl _ _ 121 rfl w.heap.size 65 z _ 2 16 underlying121 hi q o m rfl (by decide) _ _ _ rfl (World.ownsRow_made w #[] 0 (nm _) (yb _) (by simp)) a n c (cells u) rfl ?qc1 ?qc2 ?qc3 ?qc4 ?qc5 ?qc6 ?_);case qc1=>exact t
 case qc2=> intro j v i;have:=A.out j v i;exact Lib.cell?_alloc_some _ this
 case qc3=>exact Nh u
 case qc4=>rw [TP];exact H1.out
 case qc5=>rw [TP];exact C.out
 case qc6=>simp
 intro x w1 f d s;go_wp2_with fail;go_ret;refine ⟨x,rfl,by rw [g];exact f,?_⟩;exact (zA).grown d (by simp) (by intro k hk;simp [TS]at hk;omega)
def jT (x:Int×Int):List Value:= [zI x.1,zI x.2]
theorem NU (x y:Int×Int) (W:World):zF 188 #[zM x.1 x.2, zM y.1 y.2] W λe w'=>e= nf (zI (gX x.1 y.1))/\∃q os',w'= grow (W.drewN q) os':=by have a:=hT (λW'=>NM x.1 y.1 W');generalize gX x.1 y.1= r at a⊢;go_enter func188,ntmps188;go_wp2_with (go_at_call 189;refine zh (a.out _) ?_);go_ret;exact ⟨rfl,0,_,by rw [alloc_eq_grow,alloc_eq_grow,grow_grow];rfl⟩
theorem ry (x y:Int×Int):ltOf (λx y:Int×Int=>gX x.1 y.1) x y= decide (x.1<y.1):=by
 unfold ltOf gX;by_cases h1:x.1<y.1;· simp [h1]
 ·by_cases a:y.1<x.1<;>simp [h1,a]
theorem NV:SWO (ltOf λ x y:Int×Int=>gX x.1 y.1) where
 irrefl x:=by rw [ry];simp
 trans x y z h1 h2:=by rw [ry]at *;simp at *;omega
 ntrans x y z h1 h2:=by rw [ry]at *;simp at *;omega
theorem NZ {W:World} {g base m:Nat} {dk:Array (Int×Int)} {os:Array Obj} (b:base<=g) (c:base<=W.heap.size):Below base W (sortWorldK jT 2 W g 0 m dk os):=by
 refine ⟨rfl,rfl,rfl,size_sortWorldK_c jT 2 W g 0 m dk os,λk hk=>?_⟩;unfold sortWorldK putRowK putRow mapBlock;by_cases a:k<W.heap.size;· rw [heap_grow_old _ _ (by simpa using a)];show (W.heap.modify g _)[k]?= _;rw [Array.getElem?_modify,if_neg (by omega)]
 ·rw [Array.getElem?_eq_none (by omega:W.heap.size<=k)];exact absurd hk (by omega)
theorem N0 (u:zX) (n:Nat) (B:n= u.length) (base:Nat) (v:Value) (W:World) (h:W.ownsRow base 65 2 v n (cells u)) (J:base<=W.heap.size) (t:n<4611686018427387904): zF 187 #[v, .func (.func 188) #[] #[]] W λe w'=>e= nf (CE #[])/\∃p c z,v= .slice p n c/\UF u z/\ (∀i j (f:j<z.length) (r:i<j),(z[i]'(by omega)).1<=z[j].1)/\bd w' p z/\Below base W w':=by
 have E:=NQ;rcases h.2 with ⟨rfl,L⟩|⟨g,cap,cur,rfl,I,w,h1,R,Q,K⟩;· subst L;have hu:=Wb.1 B.symm;subst hu;have C:=AnyF.slices_SortFunc_none E none 0 (.func (.func 188) #[] #[]) W;change zF 187 _ _ _ at C;refine C.mono ?_;rintro e w' ⟨rfl,rfl⟩;exact ⟨rfl,none,0, [],rfl,List.Perm.refl _,λi j f=>(by simp at f),bd.nil _ _,Below.refl _ _⟩
 ·have hd:u.toArray.size= n:=by rw [B];rfl
  have s:=(DN.1 w).1;have P:=gk u;have hH:HoldsK jT 2 W g 0 u.toArray:=by
   intro j f;rw [size_flatK]at f;refine ⟨?_,frozen_of_row (j:=0+j) _ _ _ _ w⟩;rw [get_flatK _ _ _ _ f,TP,cell_of_row _ _ _ _ _ _ w];have o:j / 2<u.length:=by have:u.toArray.size= u.length:=rfl;omega
   have F:u.toArray[j / 2]! = u[j / 2]:=by rw [getElem!_pos u.toArray (j / 2) (by simpa using o)];simp
   rw [F];obtain ⟨a,b⟩:=uP u (j / 2) o;have get:∀q x,(cells u)[q]?= some x->cur[q]?= some x:=λq x hq=>by have H:=(C2.1 hq).1;rw [<-K,TQ,if_pos (by omega)]at hq;simpa using hq
   rcases Yo j with e|e;·
    rw [e];have e':j / 2*2= j:=by omega
    rw [e']at a;rw [get _ _ a];rfl
   ·rw [e];have e':j / 2*2+1= j:=by omega
    rw [e']at b;rw [get _ _ b];rfl
  have C:=AnyQ.slices_SortFunc E 2 isAgg65 sizeOf65 jT (λ_=>rfl) (λx v hv=>by simp [jT]at hv;rcases hv with rfl|rfl<;>rfl) (λx y=>gX x.1 y.1) NV 188 #[] g 0 cap u.toArray W (enters_of func188 (by kernel_rfl) rfl) (λ_ _ _ _ x y=>NU x y _) hH s (by rw [hd];exact t);change zF 187 _ _ _ at C;rw [hd]at C;refine C.mono ?_;rintro e w' ⟨rfl,d,m,os,hp,G,rfl⟩;obtain ⟨l,_,A⟩:=hp;have l:=l;have O:d.toList.length= n:=by rw [VH,l,hd]
  have N:d.extract 0 n= d:=by rw [<-hd,<-l];exact Yr
  have M:u.toArray.extract 0 n= u.toArray:=by rw [<-hd];exact Yr
  rw [N,M]at A;refine ⟨rfl,_,cap,d.toList,rfl,by simpa using A.symm,λi j f r=>?_,λhne=>⟨g,0,rfl,?_,λi hi=>?_⟩,NZ I J⟩;· have:=G i j (yb _) r (by omega);rw [ry]at this;simp only [decide_eq_false_iff_not]at this;rw [getElem!_pos d j (by simpa using f),getElem!_pos d i (by rw [VH]at f;omega)]at this;simpa using this
  ·have:=size_sortWorldK_c jT 2 W g 0 m d os;omega
  ·have k:i<d.size:=by simpa using hi
   have D:=holdsK_sortWorldK_c jT 2 W g 0 u.toArray d m os hH s l;have c0:=(D.cell k (c:=0) (by omega)).1;have c1:=(D.cell k (c:=1) (by omega)).1;rw [getElem!_pos d i k]at c0 c1;exact ⟨by simpa [jT] using c0,by simpa [jT] using c1⟩
open Go.RowKit
def Small (u:zX):Prop:=∀x∈u,x.1<=9223372036854775807
theorem N5 (s l:Int) (n c:Nat) (p:Option Addr) (w:World) (d:dW s l= false):zF 139 #[zM s l, .slice p n c] w λe w'=>e= zV (AF none 0 0) (.bool false)/\zB w w':=by have f:=hT (b_ w (zE s l 65));have a:=Bx.new w s l;have c0:=a.c0;have c1:=a.c1;have R:=hT (λw1=>Bc s l w1);rw [d]at R;clear a d;go_enter func139,ntmps139;go_wp2_with fail;refine zg (R.out _) λw1 hb=>?_;have b:=zT f hb;clear hb c0 c1;go_wp2_with fail;go_ret2;exact ⟨rfl,b.out⟩
structure ai (w wr:World) (s l:Int) (p:Option Addr) (u:zX) (k:Nat):Prop where
 aL:zB w wr
 box:Bx wr w.heap.size s l
 row:bd wr p u
 ok:∀i (h:i<u.length),i<k->bH s l u[i]= true
variable{p:Option Addr}{u:zX}{k:Nat}
theorem ai.next {w wr w':World} {s l:Int} (h:ai w wr s l p u k) (hb:zB wr w'):ai w w' s l p u k:= ⟨h.aL.trans (hb.mono h.aL.size),h.box.next hb,h.row.next hb,h.ok⟩
theorem ai.more {w wr:World} {s l:Int} (h:ai w wr s l p u k) (hk:k<u.length) (hi:bH s l u[k]):ai w wr s l p u (k+1):= ⟨h.aL,h.box,h.row,λi h1 h2=>by
 by_cases e:i= k;· subst e;exact hi
 ·exact h.ok i h1 (by omega)⟩
structure jU (w wr:World) (q:Option Addr) (z:zX) (k:Nat):Prop where
 aL:zB w wr
 row:bd wr q z
 ok:∀i (h:i+1<z.length),i+1<k->(z[i]'(by omega)).1+ (z[i]'(by omega)).2<=z[i+1].1
variable{q:Option Addr}{z:zX}
theorem jU.next {w wr w':World} (h:jU w wr q z k) (hb:zB wr w'):jU w w' q z k:= ⟨h.aL.trans (hb.mono h.aL.size),h.row.next hb,h.ok⟩
theorem jU.more {w wr:World} {j:Nat} (h:jU w wr q z k) (e:k= j+1) (hk:j+1<z.length) (hi:(z[j]'(by omega)).1+ (z[j]'(by omega)).2<=z[j+1].1):jU w wr q z (k+1):= ⟨h.aL,h.row,λi h1 h2=>by
 by_cases e:i= j;· subst e;exact hi
 ·exact h.ok i h1 (by omega)⟩
theorem N7 {s l:Int} (h:k<u.length) (hi:bH s l u[k]= false):aU s l u= false:=by unfold aU;refine decide_eq_false λ⟨_,c,_⟩=>?_;rw [c _ (SR h)]at hi;cases hi
theorem N8 {s l:Int} {j:Nat} (hp:UF u z) (a:∀i j (e:j<z.length) (d:i<j),(z[i]'(by omega)).1<=z[j].1) (h:j+1<z.length) (hi:¬(z[j]'(by omega)).1+ (z[j]'(by omega)).2<=z[j+1].1):aU s l u= false:=by unfold aU;refine decide_eq_false λc=>?_;have b:=c.perm hp;exact hi (M7 (λx hx=>(eV.1 (b.2.1 x hx)).1) a b.2.2 j h)
theorem N9 {s l:Int} (b:dW s l) (hp:UF u z) (hi:∀i (h:i<u.length),bH s l u[i]) (a:∀i (h:i+1<z.length),(z[i]'(by omega)).1+ (z[i]'(by omega)).2<=z[i+1].1):aU s l u= true/\jm z:=by
 have hu:∀x∈u,bH s l x:=λx hx=>by obtain ⟨i,h,e⟩:=Ug hx;rw [<-e];exact hi i h
 have r:=AY z (λx hx=>(eV.1 (hu x (hp.mem_iff.2 hx))).1) a;exact ⟨iO.2 (Ok.perm ⟨b,λx hx=>hu x (hp.mem_iff.2 hx),M6 r⟩ hp.symm),r⟩
theorem oP (s l:Int) (u:zX) (n:Nat) (hn:n= u.length) (p:Option Addr) (c:Nat) (w:World) (hu:bd w p u) (U:Small u) (hm:n<=maxLen) (W:n*16<=140737488355328): zF 139 #[zM s l, .slice p n c] w λe w'=>zB w w'/\ ((aU s l u= false/\e= zV (AF none 0 0) (.bool false))\/(aU s l u= true/\∃q d z,e= zV (.slice q n d) (.bool true)/\UF u z/\jm z/\bd w' q z)):=by cases hr:dW s l with
 | false=>exact (N5 s l n c p w hr).mono λe w' ⟨h1,h2⟩=>⟨h2, .inl ⟨decide_eq_false λc=>(by rw [c.1]at hr;cases hr),h1⟩⟩
 | true =>
 have HB:=hT (b_ w (zE s l 65));have r:=Bx.new w s l;have I:=hT r;have c0:=r.c0;have c1:=r.c1;have R:=hT (λw1=>Bc s l w1);rw [hr]at R;have IN:=hT (λa b w1 ha=>mA a b s l w1 ha hr);have HU:=hT (hu.next (b_ w (zE s l 65)));have Y:=hT hn;have HS:=hT U;have HM:=hT hm;have HY:=hT W;have HR:=hT hr;have af:n<=9223372036854775807:=by unfold maxLen at hm;omega
 clear r hr hu hn U hm W;go_enter func139,ntmps139;go_wp2_with fail;refine zg (R.out _) λw1 y=>?_;have HW:Hid (ai w w1 s l p u 0):=⟨zH HB y,I.out.next y,HU.out.next y,λi _ h=>absurd h (by omega)⟩;clear y c0 c1 HB I HU;go_wp2_with fail;go_loopw [15] (λi wr=>∃k:Nat,k<=n/\i= zI k/\Hid (ai w wr s l p u k)) (λi _=>n - (CS i).toNat);case atStart=>exact ⟨0,yb _,rfl,HW⟩
 case round=>
  obtain ⟨k,hk,rfl,hw⟩:=hrel;by_cases L:k<n;·
   have f:k<u.length:=by rw [<-Y.out];exact L
   have x:u≠ []:=by intro e;rw [e]at f;simp at f
   obtain ⟨b,off,rfl,m,Q⟩:=hw.out.row x;obtain ⟨A,r1⟩:=Q k f;obtain ⟨⟨t,J⟩,r⟩:=eX1 (u[k]);have T:t<=9223372036854775807:=by have:=HS.out _ (SR f);rw [<-r]at this;exact this
   rw [<-r]at A r1;dsimp only at A r1;have I:Hid (∀h:k<u.length,u[k]= (t,J)):=λ_=>r.symm;have Z:=hT f;have C:=hT (λw1=>IN.out t J w1 T);have c0:=hw.out.box.c0;have c1:=hw.out.box.c1;have B:decide (k<n):=by simp;omega
   have M:=hw.out.box.lt;have g0:(wr.alloc (zE t J 65)).cell? (zz w 0)= some (zI s):=((b_ wr _).cell (p:=(zz w 0)) M).trans c0;have g1:(wr.alloc (zE t J 65)).cell? (zz w 1)= some (zI l):=((b_ wr _).cell (p:=(zz w 1)) M).trans c1;clear r f x Q m T M c0 c1;cases g:bH s l (t,J) with
    | true =>
    rw [g]at C;go_wp2_with fail;refine zg (C.out _) λw2 hb2=>?_;have ab:Hid (ai w w2 s l (some ⟨b,off,none⟩) u (k+1)):=((hw.out.next (b_ wr _)).next hb2).more Z.out (by rw [I.out];exact g);clear hb2 g0 g1 g A r1;go_wp2_with fail;go_roundw;case rel=>exact ⟨k+1,by omega,by go_num,ab⟩
    case measure=>simp [CS];omega
    | false => rw [g]at C;go_wp2_with fail;refine zg (C.out _) λw2 hb2=>?_;have D:=hT ((hw.out.next (b_ wr _)).next hb2).aL;have HO:=hT (N7 Z.out (by rw [I.out];exact g));clear hb2 g0 g1 g A r1;go_wp2_with fail;go_ret2;exact ⟨D.out, .inl ⟨HO.out,rfl⟩⟩
  ·have B:decide (k<n)= false:=by simp;omega
   have V:k= n:=by omega
   have HA:Hid (∀i (h:i<u.length),bH s l u[i]= true):=λi h=>hw.out.ok i h (by rw [V,Y.out];exact h);have CL:=hT (NT u n Y.out p c wr hw.out.row HM.out HY.out);clear V L hk;go_wp2_with fail;refine CL.out.mono ?_;rintro e w2 ⟨v,rfl,H,y⟩;have SO:=hT (N0 u n Y.out wr.heap.size v w2 H y.size (by have:=HM.out;unfold maxLen at this;have:=HY.out;omega));have D:=hT (hw.out.aL.trans (y.mono hw.out.aL.size));clear H y CL;go_wp2_with fail;refine SO.out.mono ?_;rintro e w3 ⟨rfl,q,d,z,rfl,o,F,G,y⟩;have HZ:Hid (jU w w3 q z 1):=⟨D.out.trans (y.mono hw.out.aL.size),G,λi _ h=>absurd h (by omega)⟩;have HP:=hT o;have HT:=hT F;have HL:Hid (n= z.length):=by rw [Y.out];exact o.length_eq
   clear o F G y SO D B;go_wp2_with fail;go_loopw [9] (λi wv=>∃j:Nat,j<=n/\i= zI ((j+1:Nat):Int)/\Hid (jU w wv q z (j+1))) (λi _=>n+1 - (CS i).toNat);case atStart=>exact ⟨0,yb _,rfl,HZ⟩
   case round=>
    obtain ⟨j,hj,rfl,K⟩:=hrel;obtain ⟨k,hk⟩:=eX1 (j+1);rw [<-hk]at K⊢;by_cases L:k<n;·
     have f:j+1<z.length:=by rw [<-HL.out];omega
     have x:z≠ []:=by intro e;rw [e]at f;simp at f
     obtain ⟨b,off,rfl,m,Q⟩:=K.out.row x;have A:=(Q (j+1) f).1;obtain ⟨q0,q1⟩:=Q j (by omega);obtain ⟨⟨t,J⟩,r⟩:=eX1 (z[j+1]);obtain ⟨⟨P,O⟩,hy⟩:=eX1 (z[j]'(by omega));have g:=HA.out;have S:bH s l (P,O):=by obtain ⟨i,h,e⟩:=Ug (HP.out.mem_iff.2 (SR (l:=z) (n:=j) (by omega)));rw [hy,<-e];exact g i h
     obtain ⟨y1,y2,y3⟩:=eV.1 S;dsimp only at y1 y2 y3;obtain ⟨s1,s2,s3,s4⟩:=fo.1 HR.out;have C:=hT (λw1=>rv P O w1 (by omega) (by omega));rw [<-r]at A;rw [<-hy]at q0 q1;rw [<-hk]at A;dsimp only at A q0 q1;have I:Hid (∀h:j+1<z.length,z[j+1]= (t,J)):=λ_=>r.symm;have X:Hid (∀h:j<z.length,z[j]= (P,O)):=λ_=>hy.symm;have Z:=hT f;have N:=hT hk;have B:decide (k<n):=by simp;omega
     have e1:lg.wrap ((k:Int) - 1)= (k:Int) - 1:=rr _ (by omega);have e2:(0:Int)<=(k:Int) - 1:=by omega
     have e3:(k:Int) - 1< (n:Int):=by omega
     have e4:((k:Int) - 1).toNat= j:=by omega
     have e5:(1:Int)<=(k:Int):=by omega
     have ao:k - 1= j:=by omega
     clear r hy f x Q g S y1 y2 y3 s1 s2 s3 s4 hk;cases hcmp:decide (t<P+O) with
      | true => go_wp2_with fail;go_region_held3 (λw'=>w'.cell? ⟨b,off+k*2,none⟩= some (zI t)/\w'.cell? ⟨b,off+j*2,none⟩= some (zI P)/\w'.cell? ⟨b,off+j*2+1,none⟩= some (zI O)) (first|go_keep|(refine ⟨?_,?_,?_⟩<;>assumption)|(exact ⟨(E.out.cell (p:=⟨b,off+k*2,none⟩) m).trans A,(E.out.cell (p:=⟨b,off+j*2,none⟩) m).trans q0,(E.out.cell (p:=⟨b,off+j*2+1,none⟩) m).trans q1⟩)) (first|(go_at_call 190;refine zg (C.out _) λw4 hb4=>?_;have E:Hid (zB wr w4):=zR.drew.trans hb4;clear hb4));have ad:=hT (K.out.next E.out).aL;have HO:=hT (N8 (s:=s) (l:=l) HP.out HT.out Z.out (by rw [I.out,X.out];simpa using hcmp));go_wp2_with fail;go_ret2;exact ⟨ad.out, .inl ⟨HO.out,rfl⟩⟩
      | false =>
      go_wp2_with fail;go_region_held3 (λw'=>w'.cell? ⟨b,off+k*2,none⟩= some (zI t)/\w'.cell? ⟨b,off+j*2,none⟩= some (zI P)/\w'.cell? ⟨b,off+j*2+1,none⟩= some (zI O)) (first|go_keep|(refine ⟨?_,?_,?_⟩<;>assumption)|(exact ⟨(E.out.cell (p:=⟨b,off+k*2,none⟩) m).trans A,(E.out.cell (p:=⟨b,off+j*2,none⟩) m).trans q0,(E.out.cell (p:=⟨b,off+j*2+1,none⟩) m).trans q1⟩)) (first|(go_at_call 190;refine zg (C.out _) λw4 hb4=>?_;have E:Hid (zB wr w4):=zR.drew.trans hb4;clear hb4));have HV:Hid (jU w w4 (some ⟨b,off,none⟩) z (k+1)):=(K.out.next E.out).more N.out Z.out (by rw [I.out,X.out];simpa using hcmp);go_wp2_with fail;go_roundw;case rel=>exact ⟨j+1,by omega,by have:=N.out;go_num,by rw [<-N.out];exact HV⟩
      case measure=>simp [CS];omega
    ·have B:decide (k<n)= false:=by simp;omega
     have IS:=hT (N9 (s:=s) (l:=l) HR.out HP.out HA.out (λi h=>K.out.ok i h (by have:=HL.out;omega)));go_wp2_with fail;go_ret2;exact ⟨K.out.aL, .inr ⟨IS.out.1,q,d,z,rfl,HP.out,IS.out.2,K.out.row⟩⟩
end Xm
end
section
namespace Xm
open Go.RowKit Go.Shelf Geo
attribute [local go_sem] Ue
theorem Bd (s l:Int) (q:Option Addr) (n d:Nat) (w:World):zF 140 #[zM s l, .slice q n d] w λe w'=> e= nf (.func (.func 191) #[] #[zP w.heap.size,zP (w.heap.size+1)])/\ w'= (w.alloc (zE s l 65)).alloc (hV #[.slice q n d] 121):=by go_enter func140,ntmps140;go_wp2;go_ret;exact ⟨rfl,rfl⟩
def mW (x:Int×Int):Array Value:=#[zM x.1 x.2]
structure jq (p n₁:Nat) (w:World) (q:Option Addr) (z:zX):Prop where
 row:bd w q z
 oQ:z≠ []->∃b off,q= some ⟨b,off,none⟩/\b<n₁/\b≠p
theorem N_ {w:World} {a:Addr} {v:Value} (h:w.cell? a= some v):∃o,w.heap[a.block]?= some o/\o.isCells= true:=by unfold World.cell? at h;cases ho:w.heap[a.block]? with
 | none=>rw [ho]at h;simp at h
 | some o => rw [ho]at h;cases o with
 | cells=>exact ⟨_,rfl,rfl⟩
 | _=>simp at h
variable{q:Option Addr}
theorem jq.kp {p n₁:Nat} {w w':World} {z:zX} (h:jq p n₁ w q z) (hk:Kp p w w') (f:∀r,dg p w= some r->n₁<=r):jq p n₁ w' q z:=by
 refine ⟨λhn=>?_,h.oQ⟩;obtain ⟨b,off,e,u,l⟩:=h.row hn;obtain ⟨b2,m,d,t,g⟩:=h.oQ hn;rw [e]at d;injection d with d;injection d with d e3;subst d e3;have v:0<z.length:=by cases z with|nil=>exact (hn rfl).elim|cons=>simp
 obtain ⟨o,n,k⟩:=N_ (l 0 v).1;have s:=hk.same b o n k g λc=>by have:=f b c;omega
 have key:∀j,w'.cell? (zD b j)= w.cell? (zD b j):=λj=>World.cell?_of_block (a:=(zD b j)) (s.trans n.symm);exact ⟨b,off,e,ti u hk.size,λi hi=>⟨(key _).trans (l i hi).1,(key _).trans (l i hi).2⟩⟩
theorem jq.next {p n₁:Nat} {w w':World} {z:zX} (h:jq p n₁ w q z) (hb:zB w w'):jq p n₁ w' q z:=⟨h.row.next hb,h.oQ⟩
structure cz (J:zX->World->Prop) (p n₁ bg:Nat) (s l:Int) (q:Option Addr) (z:zX) (pre:zX) (next:Int) (k:Nat) (w:World):Prop where
 lo:s<=next
 hi:next<=s+l
 rest:∀i (h:i<z.length),k<=i->next<=z[i].1
 all:along s (s+l) z= pre ++ along next (s+l) (z.drop k)
 j:J pre w
 size:n₁<=w.heap.size
 own:∀r,dg p w= some r->n₁<=r/\r<w.heap.size
 g:Bx w bg s l
 row:jq p n₁ w q z
variable {J:zX→World→Prop} {p n₁ bg:Nat} {s l:Int} {q:Option Addr} {z pre:zX} {next:Int} {k:Nat} {w:World}
theorem cz.mX (h:cz J p n₁ bg s l q z pre next k w) {B0:Nat} (d:AbidesFrom B0 J) (c:p<n₁) {w':World} (a:zB w w'):cz J p n₁ bg s l q z pre next k w':=by have b:=oB (a.block p (by have:=h.size;omega));refine ⟨h.lo,h.hi,h.rest,h.all,d _ _ _ none h.j ⟨a.os,a.tape,a.output,a.size,λi hi _=>a.block i hi⟩ (λr e=>by cases e),A6 h.size a.size,λr hr=>?_,h.g.next a,h.row.next a⟩;rw [b]at hr;exact ⟨(h.own r hr).1,ti (h.own r hr).2 a.size⟩
theorem cz.skip (h:cz J p n₁ bg s l q z pre next k w) (b:jm z) (hk:k<z.length) (hi:bH s l z[k]) (e:¬next<z[k].1):cz J p n₁ bg s l q z pre (z[k].1+z[k].2) (k+1) w:=by obtain ⟨d,c,a⟩:=eV.1 hi;refine ⟨by omega,a,λi hi hki=>Ub.1 b k i hk hi (by omega),?_,h.j,h.size,h.own,h.g,h.row⟩;rw [h.all,UM hk,along,if_neg e];rfl
theorem cz.bn (h:cz J p n₁ bg s l q z pre next k w) (hk:k<z.length) (e:next<z[k].1): along s (s+l) z= pre ++ [(next,z[k].1 - next)] ++ along (z[k].1+z[k].2) (s+l) (z.drop (k+1)):=by rw [h.all,UM hk,along,if_pos e,NR]
theorem cz.last (h:cz J p n₁ bg s l q z pre next k w) (hk:z.length<=k):along s (s+l) z= pre ++ (if next<s+l then [(next,s+l - next)]else []):=by rw [h.all,List.drop_eq_nil_of_le hk];rfl
theorem cz.step (h:cz J p n₁ bg s l q z pre next k w) (d:jm z) (hk:k<z.length) (hi:bH s l z[k]) (e:next<z[k].1) (f:p<n₁) (m:bg<n₁) (b:bg≠p) {w3:World} (j:J (pre ++ [(next,z[k].1 - next)]) w3) (a:Kp p w w3):cz J p n₁ bg s l q z (pre ++ [(next,z[k].1 - next)]) (z[k].1+z[k].2) (k+1) w3:=by
 obtain ⟨o,n,c⟩:=eV.1 hi;refine ⟨by omega,c,λi hi hki=>Ub.1 d k i hk hi (by omega),h.bn hk e,j,A6 h.size a.size,λr hr=>⟨?_,a.high (λr hr=>(h.own r hr).2) r hr⟩,?_,h.row.kp a λr hr=>(h.own r hr).1⟩;·
  rcases a.row r hr with e|e;· exact (h.own r e).1
  ·have:=h.size;omega
 ·exact a.same bg _ h.g rfl b λe=>by have:=(h.own bg e).1;omega
end Xm
end
section
namespace Xm
open Go.RowKit Go.Shelf Geo
attribute [local go_sem] Ue
theorem Oa (m:Nat) (hm:1<=m) (ly p n₁ bg bs:Nat) (s l:Int) (q:Option Addr) (d n:Nat) (z:zX) (hn:n= z.length) (bb:n<=4611686018427387904) (hr:dW s l) (Q:∀x∈z,bH s l x) (hz:jm z) (J Jx:zX->World->Prop) (B0:Nat) (hJ:AbidesFrom B0 J) (hY:∀pre x W,J pre W->pre.length< (along s (s+l) z).length->YieldAt TT (m - 1) prog ly (mW x) W λe W'=> (e= nf (.bool true)/\J (pre ++ [x]) W'/\Kp p W W')\/(e= nf (.bool false)/\Jx (pre ++ [x]) W')) (W:World) (o:p<n₁) (af:bg<n₁) (ad:bg≠p) (cs:W.cell? (zD bs 0)= some (.slice q n d)) (h0:cz J p n₁ bg s l q z [] s 0 W): CallsIn TT m prog 191 #[.func (.yield ly) #[] #[],zP bg,zP bs] W λe W'=>(∃v,e= nf v)/\ ((∃ys,ys= along s (s+l) z/\J ys W')\/(∃pre,pre <+:along s (s+l) z/\Jx pre W')):=by
 refine callsIn_of_wp func191 rfl trivial ?_ rfl;simp only [ntmps191,Uh,Tl,Un,U3,U4,U5,U6,U7,U8,TJ,TN];have H0:=hT h0;have M:=hT hJ;have HY:=hT hY;have HI:=hT Q;have HZ:=hT hz;have HN:=hT hn;have HR:=hT hr;have g0:=h0.g.c0;clear hJ hY h0 Q hz hn hr;gi_wp2;gi_loopw [4,12] (λv i wr=>∃(pre:zX) (next:Int) (k:Nat),k<=n/\v= zI next/\i= zI k/\Hid (cz J p n₁ bg s l q z pre next k wr)) (λ_ i _=>n - (CS i).toNat);case atStart=>exact ⟨[],s,0,yb _,rfl,rfl,H0⟩
 case round=>
  obtain ⟨pre,next,k,hk,rfl,rfl,a⟩:=hrel;by_cases Z:k<n;·
   have t:k<z.length:=by rw [<-HN.out];exact Z
   have O:z≠ []:=by intro e;rw [e]at t;simp at t
   obtain ⟨b,off,rfl,bl,hc⟩:=a.out.row.row O;obtain ⟨U,T⟩:=hc k t;have G:=HI.out _ (SR t);obtain ⟨⟨c,w⟩,V⟩:=eX1 (z[k]);rw [<-V]at U T G;obtain ⟨i1,i2,i3⟩:=eV.1 G;obtain ⟨s1,s2,s3,s4⟩:=fo.1 HR.out;dsimp only at U T i1 i2 i3;have hle:next<=c:=by have:=a.out.rest k t (nm _);rw [<-V]at this;exact this
   have ab:=a.out.lo;have H:Hid (∀h:k<z.length,z[k]= (c,w)):=λ_=>V.symm;have L:=hT t;have R:=hT G;have C:=hT (λw1=>rv c w w1 (by omega) (by omega));have e1:lg.wrap (c - next)= c - next:=rr _ (by omega);clear V t O hc G;by_cases A:next<c;·
    have r:=a.out.mX M.out o (b_ wr (zE c w 65));have B:=r.bn L.out (by rw [H.out];exact A);rw [H.out L.out]at B;dsimp only at B;have hlen:pre.length< (along s (s+l) z).length:=by rw [B];simp
    have HP:Hid (pre ++ [(next,c - next)] <+:along s (s+l) z):=⟨_,B.symm⟩;have HS:Hid (∀w3,J (pre ++ [(next,c - next)]) w3->Kp p (wr.alloc (zE c w 65)) w3->cz J p n₁ bg s l (some ⟨b,off,none⟩) z (pre ++ [(next,c - next)]) (c+w) (k+1) w3):=λw3 hj hkp=>by have:=r.step HZ.out L.out (by rw [H.out];exact R.out) (by rw [H.out];exact A) o af ad (w3:=w3) (by rw [H.out];exact hj) hkp;rw [H.out L.out]at this;exact this
    have Y:=a.out.size;have I:=a.out.own;have HB:Hid (∀w3,Kp p (wr.alloc (zE c w 65)) w3->Bx w3 wr.heap.size c w):=λw3 hkp=>by refine hkp.same wr.heap.size _ (Bx.new wr c w) rfl (by omega) λe=>?_;rw [oB (Below.heap_alloc _ _ _ (by omega))]at e;have:=(I _ e).2;omega
    obtain ⟨fn,tmps,assign,body,N,hR⟩:=HY.out pre (next,c - next) _ r.j hlen;clear r B hlen Y I;unfold mW at N;dsimp only at N;gi_wp2_with fail;refine hR.mono ?_;rintro e W3 (⟨rfl,F,y⟩|⟨rfl,E⟩);·
     have K:=HB.out W3 y;have P:=HS.out W3 F y;have f0:=K.c0;have f1:=K.c1;have aw:=hT P;clear P y F K U T;gi_wp2_with fail;refine ⟨trivial,(callsIn_wide.2 (C.out _)).mono ?_⟩;rintro e w4 ⟨rfl,D⟩;have ao:=hT (aw.out.mX M.out o D);clear D f0 f1;gi_wp2;go_roundw;case rel=>exact ⟨_,c+w,k+1,by omega,by go_num,by go_num,ao⟩
     case measure=>simp [CS];omega
    ·gi_wp2;refine bodyPost_ret (results_none rfl _ _ _) rfl ?_;exact ⟨⟨_,rfl⟩, .inr ⟨_,HP.out,E⟩⟩
   ·gi_wp2_with fail;refine ⟨λf h=>(by cases h),?_⟩;go_at_K;gi_wp2_with fail;refine ⟨trivial,(callsIn_wide.2 (C.out _)).mono ?_⟩;rintro e w2 ⟨rfl,D⟩;have X:=hT (((a.out.skip HZ.out L.out (by rw [H.out];exact R.out) (by rw [H.out];show¬next<c;omega)).mX M.out o (b_ wr (zE c w 65))).mX M.out o D);rw [H.out L.out]at X;clear D U T;gi_wp2;go_roundw;case rel=>exact ⟨pre,c+w,k+1,by omega,by go_num,by go_num,X⟩
    case measure=>simp [CS];omega
  ·have u:=a.out.last (by have:=HN.out;omega);have ab:=a.out.lo;have bf:=a.out.hi;have g0:=a.out.g.c0;have g1:=a.out.g.c1;obtain ⟨s1,s2,s3,s4⟩:=fo.1 HR.out;have C:=hT (λw1=>rv s l w1 (by omega) (by omega));have e1:lg.wrap (s+l - next)= s+l - next:=rr _ (by omega);by_cases A:next<s+l;·
    rw [if_pos A]at u;have S:=hT u;clear u;gi_wp2_with fail;refine ⟨trivial,(callsIn_wide.2 (C.out _)).mono ?_⟩;rintro e w2 ⟨rfl,D⟩;have r:=a.out.mX M.out o D;have hlen:pre.length< (along s (s+l) z).length:=by rw [S.out];simp
    have HP:Hid (pre ++ [(next,s+l - next)] <+:along s (s+l) z):=⟨[],by rw [Uj];exact S.out.symm⟩;obtain ⟨fn,tmps,assign,body,N,hR⟩:=HY.out pre (next,s+l - next) _ r.j hlen;clear r hlen D g0 g1;unfold mW at N;dsimp only at N;gi_wp2_with fail;refine hR.mono ?_;rintro e W3 (⟨rfl,F,y⟩|⟨rfl,E⟩);· have ba:=hT F;clear F y;gi_wp2;go_end0;exact ⟨⟨_,rfl⟩, .inl ⟨_,S.out.symm,ba.out⟩⟩
    ·gi_wp2;go_end0;exact ⟨⟨_,rfl⟩, .inr ⟨_,HP.out,E⟩⟩
   ·rw [if_neg A,Uj]at u;have S:=hT u;clear u;gi_wp2_with fail;refine ⟨trivial,(callsIn_wide.2 (C.out _)).mono ?_⟩;rintro e w2 ⟨rfl,D⟩;have X:=hT (a.out.mX M.out o D).j;clear D g0 g1;gi_wp2_with fail;go_end0;exact ⟨⟨_,rfl⟩, .inl ⟨pre,S.out.symm,X.out⟩⟩
end Xm
end
section
namespace Xm
open Go.RowKit Go.Shelf Geo
attribute [local go_sem] Ue
theorem Be (m:Nat) (hm:1<=m) (p bg bs:Nat) (s l:Int) (q:Option Addr) (d n:Nat) (z:zX) (u:n= z.length) (f:n<=4611686018427387904) (b:dW s l) (g:∀x∈z,bH s l x) (t:jm z) (w:World) (c:p<w.heap.size) (j:bg≠p) (o:Bx w bg s l) (k:bs<w.heap.size) (cs:w.cell? (zD bs 0)= some (.slice q n d)) (a:jq p w.heap.size w q z) (hp:dg p w= none): SeqStopsK TT m prog 191 #[zP bg,zP bs] mW (Kp p) (λys=>ys= along s (s+l) z) (λpre=>pre <+:along s (s+l) z) (along s (s+l) z).length w:=λly J Jx W hW hJ _ hY h0=>by
 obtain ⟨s1,s2,y,v⟩:=fo.1 b;have e:dg p W= none:=by rw [oB (hW.block p c)];exact hp
 refine Oa m hm ly p w.heap.size bg bs s l q d n z u f b g t J Jx W.heap.size hJ hY W c o.lt j ((hW.cell (p:=(zD bs 0)) k).trans cs) ?_;refine ⟨T9 _,by omega,λi h _=>(eV.1 (g _ (SR h))).2.1,rfl,h0,hW.size,λr b=>?_,o.next hW,a.next hW⟩;rw [e]at b;cases b
theorem Bf (W1:World) (s l:Int) (q:Option Addr) (n d:Nat) (W2:World) (h:(W1.alloc (zE s l 65)).alloc (hV #[.slice q n d] 121)= W2): zB W1 W2/\W2.heap.size= W1.heap.size+2/\Bx W2 W1.heap.size s l/\W2.cell? (zD (W1.heap.size+1) 0)= some (.slice q n d):=by subst h;have b:=UE (W1.alloc (zE s l 65)) 121 (.slice q n d);simp only [World.size_alloc]at b;exact ⟨(b_ W1 _).alloc (by simp) _,by simp,(Bx.new W1 s l).next (b_ _ _),b.cell⟩
theorem Bg (s l:Int) (u:zX):(bF s l u).length<=l.toNat:=by unfold bF;rw [Xf];exact (ra _ _ _).len
end Xm
end
section
namespace Xm
open Go.RowKit Go.Shelf Geo
attribute [local go_sem] Ue
theorem Oc (s l:Int) (u:zX) (n:Nat) (i:n= u.length) (p:Option Addr) (c:Nat) (w:World) (hu:bd w p u) (a:Small u) (hm:n<=maxLen) (b:n*16<=140737488355328): zF 107 #[zM s l, .slice p n c] w (zJ (.bool (aU s l u)) w):=by have k:=hT (b_ w (zE s l 65));have f:=Bx.new w s l;have c0:=f.c0;have c1:=f.c1;have R:=hT (oP s l u n i p c _ (hu.next k.out) a hm b);clear f a hm b hu i;go_enter func107,ntmps107;go_wp2_with fail;refine R.out.mono ?_;rintro e w1 ⟨j,⟨h,rfl⟩|⟨h,q,d,z,rfl,_⟩⟩;all_goals have g:=zT k j;have m:=hT h;clear j c0 c1 h;go_wp2_with fail;go_ret;exact ⟨by rw [m.out];rfl,g.out⟩
theorem Od (s l:Int) (u:zX) (n:Nat) (g:n= u.length) (p:Option Addr) (c:Nat) (w:World) (hu:bd w p u) (a:Small u) (hm:n<=maxLen) (b:n*16<=140737488355328) (h:aU s l u= false): zF 77 #[zM s l, .slice p n c] w (zJ (zI 0) w):=by
 have j:=hT (b_ w (zE s l 65));have d:=Bx.new w s l;have c0:=d.c0;have c1:=d.c1;have R:=hT (oP s l u n g p c _ (hu.next j.out) a hm b);have k:=hT h;clear d h a hm b hu g;go_enter func77,ntmps77;go_wp2_with fail;refine R.out.mono ?_;rintro e w1 ⟨i,⟨_,rfl⟩|⟨h,_⟩⟩;· have f:=zT j i;clear i c0 c1;go_wp2_with fail;go_ret;exact ⟨rfl,f.out⟩
 ·rw [k.out]at h;cases h
theorem Oe {W:World} {B:Nat} {t:TypeId} {v:Value} (h:Boxed W B t v) (v':Value) (b:v'.ownBlock= none):Kp B W (W.setCell ⟨B,0,none⟩ v'):=by
 have a:dg B (W.setCell ⟨B,0,none⟩ v')= none:=by unfold dg;rw [(h.set v').cell];exact b
 refine ⟨by simp [World.setCell],λk o hk _ hp _=>(L2 _ _ _ _ hp).trans hk,λr e=>?_,λ_ r e=>?_⟩;· rw [a]at e;cases e
 ·rw [a]at e;cases e
theorem Bh (a b:Int):lg.wrap (lg.wrap a+b)= lg.wrap (a+b):=by rw [Xg,Xg,Xg];omega
theorem Bi (s l:Int) (u:zX) (h:dW s l):0<=free s l u/\free s l u<=l:=by obtain ⟨_,_,a,_⟩:=fo.1 h;rw [uO];have:=Nf (has u) s l.toNat;omega
theorem Of (s l:Int) (u:zX) (n:Nat) (Z:n= u.length) (p:Option Addr) (c:Nat) (w:World) (hu:bd w p u) (H:Small u) (hm:n<=maxLen) (v:n*16<=140737488355328) (h:aU s l u): zF 77 #[zM s l, .slice p n c] w (zJ (zI (free s l u)) w):=by
 have HB:=hT (b_ w (zE s l 65));have C:=Bx.new w s l;have HX:=hT C;have c0:=C.c0;have c1:=C.c1;have R:=hT (oP s l u n Z p c _ (hu.next HB.out) H hm v);have HO:=hT h;have HM:=hT v;have HN:=hT Z;clear C h H hm v hu Z;refine (callsIn_wide (n:=3)).1 ?_;refine callsIn_of_wp_marks func77 rfl trivial ?_ rfl;simp only [ntmps77,Uh,Tl,Un,U3,U4,U5,U6,U7,U8,TJ,TN];gi_wp2_with fail;refine ⟨trivial,(callsIn_wide.2 R.out).mono ?_⟩;rintro e w1 ⟨O,⟨h,_⟩|⟨_,q,d,z,rfl,hp,hz,a⟩⟩;· rw [HO.out]at h;cases h
 have o:=zT HB O;have M:=hT (HX.out.next O);have HR:=hT a;have Q:=hT hp;have HZ:=hT hz;clear O c0 c1 a hp hz R;have A:=M.out.next (b_ w1 (hV #[zI 0] 3));have c0:=A.c0;have c1:=A.c1;have G:=hT (Bd s l q n d (w1.alloc (hV #[zI 0] 3)));clear A;gi_wp2_with fail;refine ⟨trivial,(callsIn_wide.2 G.out).mono ?_⟩;rintro e w3 ⟨rfl,rfl⟩;gi_wp2_with fail;obtain ⟨F,i⟩:=eX2 (w1.alloc (hV #[zI 0] 3));rw [i];obtain ⟨E,j⟩:=eX2 ((F.alloc (zE s l 65)).alloc (hV #[.slice q n d] 121));obtain ⟨y,s2,bG,bS⟩:=Bf F s l q n d E j;have f:=iO.1 HO.out;have s1:F.heap.size= w1.heap.size+1:=by rw [<-i];simp
 have b1:zB w1 F:=by rw [<-i];exact b_ _ _
 have bP:Boxed E w1.heap.size 3 (zI 0):=by have:=UE w1 3 (zI 0);rw [i]at this;rw [<-j];exact (this.alloc _).alloc _
 have ad:=o.out.trans ((b1.trans (y.mono (by omega))).mono o.out.size);have T:=o.out.size;have L:=A4 f Q.out HZ.out;have J:n= z.length:=by rw [HN.out];exact Q.out.length_eq
 have a:jq w1.heap.size E.heap.size E q z:=by have h2:=(HR.out.next b1).next y;refine ⟨h2,λhne=>?_⟩;obtain ⟨b,off,e,O,_⟩:=HR.out hne;exact ⟨b,off,e,by omega,by omega⟩
 have S:=hT (Be (3 - 1) (by omega) w1.heap.size F.heap.size (F.heap.size+1) s l q d n z J (by have:=HM.out;omega) f.1 (λx C=>(f.perm Q.out).2.1 x C) HZ.out E (by omega) (by omega) bG (by omega) bS a (by unfold dg;rw [bP.cell];rfl));rw [L]at S;obtain ⟨B,m⟩:=eX1 w1.heap.size;have HF:Hid (0<=free s l u/\free s l u<=1048576):=by obtain ⟨_,_,_,h4⟩:=fo.1 f.1;have:=Bi s l u f.1;exact ⟨this.1,by omega⟩
 rw [s1]at S;rw [j];rw [<-m]at bP S T⊢;have aw:B+3= E.heap.size:=by omega
 clear j y s2 bG bS f s1 b1 L J a c0 c1 G HB HX o M HR Q HZ m i;refine wpIn_rangeFunc_ownH rfl (by omega) (gf:=191) (lb:=#[zP (B+1), .pointer (some ⟨B+1+1,0,none⟩)]) rfl trivial (enters_of func191 (by kernel_rfl) rfl) S.out (λh k=>h.trans k) (uw (by omega)) zR (λ_=>rfl) (λpre W=>Boxed W B 3 (zI (lg.wrap (di pre)))/\zB w W) (λ_ _ _=>False) (OwnFrom.and (Own.from (boxed_own B 3 (λpre:List (Int×Int)=>Value.int lg (lg.wrap (di pre)))) _) (ownFrom_below (nm _) (by omega))) (λ_ _ _ _ _ hs _ _=>hs) ⟨bP,ad⟩ (λx a' W=>∃b,B<b/\Bx W b x.1 x.2/\a'= {tmps:=#[zM s l, .slice p n c,zP w.heap.size,undef,zI 0, .slice q n d, .bool true,zP B,zP b, CE #[.slice q n d, .bool true], zM s l, .slice p n c, CE #[.slice q n d, .bool true], .slice q n d, .bool true, .bool true, .bool false, zM s l, .slice q n d, .func (.func 191) #[] #[zP (B+1), .pointer (some ⟨B+1+1,0,none⟩)], zM x.1 x.2,undef,undef,undef,undef,undef],defers:= []}) (λx a' _ X Y row hs hg hr=>by obtain ⟨b,k1,N,k3⟩:=hs;refine ⟨b,k1,(hg.block b (DN.1 N).1 λe=>?_).trans N,k3⟩;obtain ⟨_,ob,I,ab⟩:=hr b e.symm;unfold Bx at N;rw [N]at I;cases I;cases ab) ?assign ?body ?done ?stop;case assign=> rintro ly pre x W K ⟨g,m⟩ P;unfold mW;gi_wp2;exact P _ _ ((W_ _ _).from _) (Kp.grown (Wa W _ none) g.lt (λr e=>by cases e)) ⟨g.alloc _,m.alloc m.size _⟩ ⟨W.heap.size,g.lt,heap_alloc_new W _,rfl⟩
 case body=> rintro ly pre x a' W hl ⟨r,hr⟩ ⟨g,m⟩ ⟨b,ao,bX,rfl⟩ af;obtain ⟨t,V⟩:=eX1 (lg.wrap (di pre));rw [<-V]at g;obtain ⟨t2,U⟩:=eX2 (lg.wrap (t+x.2));have HT:=hT (show t2= lg.wrap (di (pre ++ [x])) by rw [<-U,V,Bh,uN];simp [di]);have hc:=g.cell;have hf:=g.frozen;have x1:=bX.c1;clear V;gi_wp2;refine ⟨(Wd _ _ _).from _,Oe g _ rfl,?_,m.setCell (p:=(zD B 0)) (by show w.heap.size<=B;omega) _⟩;rw [<-HT.out];exact g.set _
 case done=>
  rintro D ys W hD rfl ⟨g,m⟩ P;have e1:lg.wrap (di (bF s l u))= free s l u:=by obtain ⟨f1,f2⟩:=HF.out;exact rr _ (by unfold free at f1 f2;omega)
  rw [e1]at g;have hc:=g.cell;gi_wp2;refine ⟨by simp, .inl ⟨_,_,rfl,run_takeDeferred P,?_⟩⟩;exact ⟨_,results_tmp rfl _ _ _,rfl,m.trans (belowK_b (w:=w) (nm _) W D _ _ (by omega) P rfl rfl)⟩
 case stop=> rintro D c pre W _ _ h _;exact h.elim
end Xm
end
section
namespace Xm
open Go.RowKit Go.Shelf Geo
attribute [local go_sem] Ue
def room (m:Int) (gs:zX):Option (Int×Int):=gs.find? λx=>decide (m<=x.2)
def cJ (s l m:Int) (u:zX):Int:= if aU s l u= true/\1<=m then match room m (bF s l u) with|some x=>x.1|none=>0 else 0
def cK (s l m:Int) (u:zX):Int:= if aU s l u= true/\1<=m then match room m (bF s l u) with|some _=>m|none=>0 else 0
def dA (s l m:Int) (u:zX):Int:= if aU s l u= true/\1<=m then match room m (bF s l u) with|some _=>0|none=>111 else 1
variable{m:Int}{u:zX}
theorem uZ {s l:Int} (h:¬(aU s l u= true/\1<=m)):cJ s l m u= 0/\cK s l m u= 0/\dA s l m u= 1:=by unfold cJ cK dA;rw [if_neg h,if_neg h,if_neg h];exact ⟨rfl,rfl,rfl⟩
theorem oS {s l:Int} (h:aU s l u= true/\1<=m) (a:room m (bF s l u)= none):cJ s l m u= 0/\cK s l m u= 0/\dA s l m u= 111:=by unfold cJ cK dA;rw [if_pos h,if_pos h,if_pos h,a];exact ⟨rfl,rfl,rfl⟩
theorem oT {s l:Int} (h:aU s l u= true/\1<=m) {x:Int×Int} (a:room m (bF s l u)= some x):cJ s l m u= x.1/\cK s l m u= m/\dA s l m u= 0:=by unfold cJ cK dA;rw [if_pos h,if_pos h,if_pos h,a];exact ⟨rfl,rfl,rfl⟩
theorem u_ {gs:zX} (h:∀x∈gs,¬m<=x.2):room m gs= none:=by unfold room;rw [List.find?_eq_none];intro x a;simpa using h x a
theorem Bl {pre gs:zX} {x:Int×Int} (hp:pre ++ [x] <+:gs) (h:∀y∈pre,¬m<=y.2) (a:m<=x.2):room m gs= some x:=by obtain ⟨r,rfl⟩:=hp;unfold room;rw [NR,List.find?_append,show List.find? (λx:Int×Int=>decide (m<=x.2)) pre= none from u_ h];simp [a]
variable{fn:Func}
theorem Oi {p u:Tmp} {ty t2:TypeId} (h:fn.results= #[.cell p ty, .cell u t2]) (tmps:Array Value) (P:Program) (w:World): (results fn tmps).run P w= ((asAddr (tmps.getD p undef)).run P w).andThen λa w₁=>((loadVar ty a).run P w₁).andThen λv w₂=>((asAddr (tmps.getD u undef)).run P w₂).andThen λa w₃=>((loadVar t2 a).run P w₃).andThen λv2 w₄=> .ok (CE #[v,v2]) w₄:=by simp only [results,h];simp [Sem.run_bind,Ty]
theorem rz {p u:Tmp} (h:fn.results= #[.cell p 65, .cell u 38]) (tmps:Array Value) (w:World) (g b:Nat) (x y v:Value) (hp:tmps.getD p undef= zP g) (hu:tmps.getD u undef= zP b) (a:w.heap[g]?= some (hV #[x,y] 65 (0,0))) (d:w.heap[b]?= some (hV #[v] 38 (0,0))): (results fn tmps).run prog w= .ok (CE #[.agg #[x,y],v]) w:=by
 have hi:(prog.info? 65).map (·.size)= some (#[x,y]:Array Value).size:=by show _= some 2;kernel_rfl
 have c:w.cell? (zD b 0)= some v:=zW d;rw [Oi h,hp,hu];simp [asAddr,run_loadVar_row w g 65 65 #[x,y] (0,0) _ a underlying65 rfl hi,Ty];simp [loadVar,go_sem,c,Ty]
theorem Bm (w:World) (s l m:Int) (W0:World) (h:(((w.alloc (zE s l 65)).alloc (hV #[zI m] 3)).alloc (zE 0 0 65)).alloc (hV #[zI 0] 38)= W0): zB w W0/\Bx W0 w.heap.size s l/\Boxed W0 (w.heap.size+1) 3 (zI m)/\Bx W0 (w.heap.size+2) 0 0/\Boxed W0 (w.heap.size+3) 38 (zI 0)/\W0.heap.size= w.heap.size+4:=by
 subst h;obtain ⟨A,c⟩:=eX2 (w.alloc (zE s l 65));have a1:Bx A w.heap.size s l:=by rw [<-c];exact Bx.new _ _ _
 have a2:A.heap.size= w.heap.size+1:=by rw [<-c];simp
 have a3:zB w A:=by rw [<-c];exact b_ _ _
 rw [c];obtain ⟨C,b⟩:=eX2 (A.alloc (hV #[zI m] 3));have c1:Boxed C (w.heap.size+1) 3 (zI m):=by rw [<-b,<-a2];exact UE _ _ _
 have c2:C.heap.size= w.heap.size+2:=by rw [<-b];simp [a2]
 have c3:zB A C:=by rw [<-b];exact b_ _ _
 rw [b];obtain ⟨D,a⟩:=eX2 (C.alloc (zE 0 0 65));have d1:Bx D (w.heap.size+2) 0 0:=by rw [<-a,<-c2];exact Bx.new _ _ _
 have d2:D.heap.size= w.heap.size+3:=by rw [<-a];simp [c2]
 have d3:zB C D:=by rw [<-a];exact b_ _ _
 rw [a];have e:=UE D 38 (zI 0);rw [d2]at e;have d:=b_ D (hV #[zI 0] 38);refine ⟨((a3.trans (c3.mono (by omega))).trans (d3.mono (by omega))).trans (d.mono (by omega)),((a1.next c3).next d3).next d,?_,d1.next d,e,by simp [d2]⟩;have:Boxed D (w.heap.size+1) 3 (zI m):=(d3.block _ c1.lt).trans c1;exact this.alloc _
theorem vb {W:World} {g b:Nat} {x0 y0:Int} {v0:Value} (c:Bx W g x0 y0) (d:Boxed W b 38 v0) (a:g≠b) (x y v:Int): Bx (((W.setCell ⟨g,0,none⟩ (zI x)).setCell ⟨g,1,none⟩ (zI y)).setCell ⟨b,0,none⟩ (zI v)) g x y/\Boxed (((W.setCell ⟨g,0,none⟩ (zI x)).setCell ⟨g,1,none⟩ (zI y)).setCell ⟨b,0,none⟩ (zI v)) b 38 (zI v):=by have h1:=fX c (zI x) (zI y);have e:Boxed ((W.setCell ⟨g,0,none⟩ (zI x)).setCell ⟨g,1,none⟩ (zI y)) b 38 v0:=(L2 _ _ _ _ (Ne.symm a)).trans ((L2 _ _ _ _ (Ne.symm a)).trans d);exact ⟨(L2 _ _ _ _ a).trans h1,e.set _⟩
theorem vd {B:Nat} {a W:World} {g b:Nat} (h:Below B a W) (hg:B<=g) (hb:B<=b) (x y v:Value):Below B a (((W.setCell ⟨g,0,none⟩ x).setCell ⟨g,1,none⟩ y).setCell ⟨b,0,none⟩ v):=(fY h hg x y).setCell (p:=(zD b 0)) hb v
theorem Bx.frozen {w:World} {b:Nat} {s l:Int} (h:Bx w b s l):w.frozen? (zD b 0)= false/\w.frozen? (zD b 1)= false:=⟨frozen_of_row (j:=0) _ _ _ _ h,frozen_of_row (j:=1) _ _ _ _ h⟩
theorem Oj (s l m:Int) (u:zX) (n:Nat) (D:n= u.length) (p:Option Addr) (c:Nat) (w:World) (hu:bd w p u) (i:Small u) (hm:n<=maxLen) (k:n*16<=140737488355328) (h:¬(aU s l u= true/\1<=m)): zF 111 #[zM s l,zI m, .slice p n c] w λe w'=>e= zV (zM 0 0) (zI 1)/\zB w w':=by
 obtain ⟨F,r⟩:=eX2 ((((w.alloc (zE s l 65)).alloc (hV #[zI m] 3)).alloc (zE 0 0 65)).alloc (hV #[zI 0] 38));obtain ⟨C,A,j,E,o,J⟩:=Bm w s l m F r;have I:=hT C;have G:=hT j;have H:=hT E;have v:=hT o;have c0:=A.c0;have c1:=A.c1;have R:=hT (oP s l u n D p c F (hu.keep (B:=0) (by omega) λq hq=>C.cell hq) i hm k);have N:=hT h;clear C A j E o i hm k hu D h;go_enter func111,ntmps111;go_wp2_with fail;clear r;refine R.out.mono ?_;rintro e w1 ⟨f,⟨_,rfl⟩|⟨h,q,d,z,rfl,_⟩⟩;· have g:=zT I f;have a:=hT (H.out.next f);have b:Hid (Boxed w1 (w.heap.size+3) 38 (zI 0)):=(f.block _ v.out.lt).trans v.out;have g0:=a.out.c0;have g1:=a.out.c1;obtain ⟨f0,f1⟩:=a.out.frozen;have M:=b.out.cell;have L:=b.out.frozen;clear f c0 c1;go_wp2_with fail;obtain ⟨y,x⟩:=vb a.out b.out (by omega) 0 0 1;refine bodyPost_ret (rz (p:=6) (u:=7) rfl _ _ (w.heap.size+2) (w.heap.size+3) _ _ _ rfl rfl y x) rfl ⟨rfl,?_⟩;exact vd g.out (by omega) (by omega) _ _ _
 ·have K:decide (m<1):=by
   have:=N.out;simp;by_cases c:1<=m;· exact absurd ⟨h,c⟩ this
   ·omega
  have g:=zT I f;have a:=hT (H.out.next f);have b:Hid (Boxed w1 (w.heap.size+3) 38 (zI 0)):=(f.block _ v.out.lt).trans v.out;have t:Boxed w1 (w.heap.size+1) 3 (zI m):=(f.block _ G.out.lt).trans G.out;have O:=t.cell;have g0:=a.out.c0;have g1:=a.out.c1;obtain ⟨f0,f1⟩:=a.out.frozen;have M:=b.out.cell;have L:=b.out.frozen;clear f c0 c1 h t;go_wp2_with fail;obtain ⟨y,x⟩:=vb a.out b.out (by omega) 0 0 1;refine bodyPost_ret (rz (p:=6) (u:=7) rfl _ _ (w.heap.size+2) (w.heap.size+3) _ _ _ rfl rfl y x) rfl ⟨rfl,?_⟩;exact vd g.out (by omega) (by omega) _ _ _
end Xm
end
section
namespace Xm
open Go.RowKit Go.Shelf Geo
attribute [local go_sem] Ue
variable{W:World}{row:Option Nat}{g:Nat}
theorem Bn {W':World} {s l:Int} (h:Bx W g s l) (c:W.grownBy W' row) (b:∀r,row= some r->∃o:Obj,W.heap[r]?= some o/\o.isCells= false):Bx W' g s l:=by refine (c.block g h.lt λe=>?_).trans h;obtain ⟨o,a,d⟩:=b g e.symm;unfold Bx at h;rw [h]at a;cases a;cases d
variable{t:TypeId}
theorem Bp {W':World} {v:Value} (h:Boxed W g t v) (c:W.grownBy W' row) (b:∀r,row= some r->∃o:Obj,W.heap[r]?= some o/\o.isCells= false):Boxed W' g t v:=by refine h.kept c λe=>?_;obtain ⟨o,a,d⟩:=b g e.symm;rw [show W.heap[g]?= _ from h]at a;cases a;cases d
theorem Ol {b k:Nat} {v0:Value} (h:Boxed W k t v0) (hg:k≠g) (hb:k≠b) (x y v:Value):Boxed (((W.setCell ⟨g,0,none⟩ x).setCell ⟨g,1,none⟩ y).setCell ⟨b,0,none⟩ v) k t v0:= (L2 _ _ _ _ hb).trans ((L2 _ _ _ _ hg).trans ((L2 _ _ _ _ hg).trans h))
structure FI (w:World) (m:Int) (x y e:Int) (W:World):Prop where
 m:Boxed W (w.heap.size+1) 3 (zI m)
 g:Bx W (w.heap.size+2) x y
 e:Boxed W (w.heap.size+3) 38 (zI e)
 aL:zB w W
variable{w:World}{m:Int}
theorem FI.kept {x y e:Int} {W':World} (h:FI w m x y e W) (hg:W.grownBy W' row) (hr:∀r,row= some r->w.heap.size<=r/\∃o:Obj,W.heap[r]?= some o/\o.isCells= false):FI w m x y e W':= ⟨Bp h.m hg (λr e=>(hr r e).2),Bn h.g hg (λr e=>(hr r e).2),Bp h.e hg (λr e=>(hr r e).2),h.aL.grown hg h.aL.size (λk e=>(hr k e).1)⟩
theorem FI.own {β:Type} (P:β->Prop) (x y e:Int) {B:Nat} (hB:w.heap.size<=B):OwnFrom B (λ(b:β) W=>P b/\FI w m x y e W):= λ_ _ _ _ hs hg hr=>⟨hs.1,hs.2.kept hg λr e=>⟨A6 hB (hr r e).1,(hr r e).2⟩⟩
theorem FI.alloc {x y e:Int} (h:FI w m x y e W) (o:Obj):FI w m x y e (W.alloc o):=h.kept (Wa W o none) (λr e=>by cases e)
theorem FI.put {x y e:Int} (h:FI w m x y e W) {D:Nat} {o:Obj} (o':Obj) (b:W.heap[D]?= some o) (a:o.isCells= false) (hw:w.heap.size<=D):FI w m x y e (W.putObj D o'):= h.kept (grownBy_putObj' W D o') (λr e=>by cases e;exact ⟨hw,o,b,a⟩)
theorem FI.set {x y e:Int} (h:FI w m x y e W) (x2 y2 e2:Int):FI w m x2 y2 e2 (((W.setCell ⟨w.heap.size+2,0,none⟩ (zI x2)).setCell ⟨w.heap.size+2,1,none⟩ (zI y2)).setCell ⟨w.heap.size+3,0,none⟩ (zI e2)):=by obtain ⟨b,a⟩:=vb h.g h.e (by omega) x2 y2 e2;exact ⟨Ol h.m (by omega) (by omega) _ _ _,b,a,vd h.aL (by omega) (by omega) _ _ _⟩
def NoRoom (m:Int) (pre:zX):Prop:=∀y∈pre,¬m<=y.2
def oU (w:World) (m:Int) (c:Code) (pre:zX) (W:World):Prop:=∃x:Int×Int,(c= .ret/\(∃pr,pre= pr ++ [x]/\NoRoom m pr)/\m<=x.2)/\FI w m x.1 m 0 W
theorem NoRoom.more {pre:zX} {x:Int×Int} (h:NoRoom m pre) (b:¬m<=x.2):NoRoom m (pre ++ [x]):=by
 intro y a;rcases RR.1 a with c|c;· exact h y c
 ·rw [H5.1 c];exact b
theorem Bq {D:Nat} {o:Obj} {x y v:Value} {N:Nat} (h:W.heap[D]?= some o) (b:N<=D) (a:w.heap.size+3<N): (((W.setCell ⟨w.heap.size+2,0,none⟩ x).setCell ⟨w.heap.size+2,1,none⟩ y).setCell ⟨w.heap.size+3,0,none⟩ v).heap[D]?= some o:= (L2 _ _ _ _ (by show D≠w.heap.size+3;omega)).trans ((L2 _ _ _ _ (by show D≠w.heap.size+2;omega)).trans ((L2 _ _ _ _ (by show D≠w.heap.size+2;omega)).trans h))
theorem On (s l m:Int) (u:zX) (n:Nat) (hn:n= u.length) (p:Option Addr) (c:Nat) (w:World) (hu:bd w p u) (ab:Small u) (hm:n<=maxLen) (M:n*16<=140737488355328) (h:aU s l u) (h1:1<=m): zF 111 #[zM s l,zI m, .slice p n c] w λe w'=>e= zV (zM (cJ s l m u) (cK s l m u)) (zI (dA s l m u))/\zB w w':=by
 obtain ⟨W0,bg⟩:=eX2 ((((w.alloc (zE s l 65)).alloc (hV #[zI m] 3)).alloc (zE 0 0 65)).alloc (hV #[zI 0] 38));obtain ⟨T,Q,aw,S,bf,Z⟩:=Bm w s l m W0 bg;have HX:=hT Q;have t:Hid (FI w m 0 0 0 W0):=⟨aw,S,bf,T⟩;have c0:=Q.c0;have c1:=Q.c1;have R:=hT (oP s l u n hn p c W0 (hu.keep (B:=0) (by omega) λq hq=>T.cell hq) ab hm M);have HO:=hT h;have HM:=hT M;have HN:=hT hn;have H1:=hT h1;have SZ:=hT Z;have d1:decide (m<1)= false:=by simp;omega
 clear T Q aw S bf Z hm M hu hn h ab h1;refine (callsIn_wide (n:=3)).1 ?_;refine callsIn_of_wp_marks func111 rfl trivial ?_ rfl;simp only [ntmps111,Uh,Tl,Un,U3,U4,U5,U6,U7,U8,TJ,TN];gi_wp2_with fail;clear bg;refine ⟨trivial,(callsIn_wide.2 R.out).mono ?_⟩;rintro e w1 ⟨I,⟨h,_⟩|⟨_,q,d,z,rfl,hp,hz,o⟩⟩;· rw [HO.out]at h;cases h
 have P:=hT (HX.out.next I);have f:Hid (FI w m 0 0 0 w1):=⟨(I.block _ t.out.m.lt).trans t.out.m,t.out.g.next I,(I.block _ t.out.e.lt).trans t.out.e,t.out.aL.trans (I.mono t.out.aL.size)⟩;have S1:Hid (w.heap.size+4<=w1.heap.size):=by have:=SZ.out;have:=I.size;exact (by omega:w.heap.size+4<=w1.heap.size)
 have HR:=hT o;have F:=hT hp;have HZ:=hT hz;clear I c0 c1 o hp hz R;have c0:=P.out.c0;have c1:=P.out.c1;have m0:=f.out.m.cell;have G:=hT (Bd s l q n d w1);gi_wp2_with fail;refine ⟨trivial,(callsIn_wide.2 G.out).mono ?_⟩;rintro e w3 ⟨rfl,rfl⟩;gi_wp2_with fail;obtain ⟨J,N⟩:=eX2 ((w1.alloc (zE s l 65)).alloc (hV #[.slice q n d] 121));obtain ⟨A,s2,bG,bS⟩:=Bf w1 s l q n d J N;have C:=iO.1 HO.out;have bm:=S1.out;have bb:=A4 C F.out HZ.out;have ao:n= z.length:=by rw [HN.out];exact F.out.length_eq
 have bl:FI w m 0 0 0 J:=⟨(A.block _ f.out.m.lt).trans f.out.m,f.out.g.next A,(A.block _ f.out.e.lt).trans f.out.e,f.out.aL.trans (A.mono f.out.aL.size)⟩;have L:∀x∈z,bH s l x:=λx Q=>(C.perm F.out).2.1 x Q;have o:jq (w.heap.size+2) J.heap.size J q z:=by
  have h2:=HR.out.next A;refine ⟨h2,λhne=>?_⟩;obtain ⟨b,off,e,I,hc⟩:=HR.out hne;refine ⟨b,off,e,by omega,λhbe=>?_⟩;subst hbe;have U:0<z.length:=by cases z with|nil=>exact (hne rfl).elim|cons=>simp
  have h1:=(eV.1 (L _ (SR U))).1;have E:=(hc 0 U).2;have h4:w1.heap[w.heap.size+2]?= some (hV #[zI 0,zI 0] 65 (0,0)):=f.out.g;rw [cell_of_row _ _ _ _ _ _ h4]at E;obtain ⟨j,hj⟩:=eX1 (off+0*2+1);rw [<-hj]at E;match j,E with
   | 0,E=>simp at E;omega
   | 1,E=>simp at E;omega
   | j+2,E=>simp at E
 have GS:=hT (Be (3 - 1) (by omega) (w.heap.size+2) w1.heap.size (w1.heap.size+1) s l q d n z ao (by have:=HM.out;omega) C.1 L HZ.out J (by omega) (by omega) bG (by omega) bS o (by unfold dg;rw [bl.g.c0];rfl));rw [bb]at GS;obtain ⟨B,T⟩:=eX1 w1.heap.size;have V:w.heap.size<=J.heap.size:=by omega
 have af:w.heap.size+3<J.heap.size:=by omega
 have bq:B+2= J.heap.size:=by omega
 rw [N];rw [<-T]at GS⊢;clear N A s2 bG bS C bb ao o L c0 c1 m0 G HX P HR F HZ T t f SZ bm;refine wpIn_rangeFunc_ownH rfl (by omega) (gf:=191) (lb:=#[zP B,zP (B+1)]) rfl trivial (enters_of func191 (by kernel_rfl) rfl) GS.out (λh k=>h.trans k) (uw (by omega)) zR (λ_=>rfl) (λpre W=>NoRoom m pre/\FI w m 0 0 0 W) (oU w m) (FI.own (λpre:List (Int×Int)=>NoRoom m pre) 0 0 0 V) (λc pre W W' row hs S hr=>by obtain ⟨x,h1,h2⟩:=hs;exact ⟨x,h1,h2.kept S λr e=>⟨A6 V (hr r e).1,(hr r e).2⟩⟩) ⟨λy hy=>(by cases hy),bl⟩ (λx a' W=>∃b,w.heap.size+4<=b/\Bx W b x.1 x.2/\a'= {tmps:=#[zM s l,zI m, .slice p n c,zP w.heap.size,zP (w.heap.size+1),undef,zP (w.heap.size+2),zP (w.heap.size+3), .slice q n d, .bool true,zP b, CE #[.slice q n d, .bool true], zM s l, .slice p n c, CE #[.slice q n d, .bool true], .slice q n d, .bool true, .bool true, .bool false, .bool false,zI m, .bool false, .bool false,undef, zM s l, .slice q n d, .func (.func 191) #[] #[zP B,zP (B+1)], zM x.1 x.2,undef,undef,undef,undef,undef,undef,undef,undef,undef],defers:= []}) (λx a' _ X Y row hs S hr=>by obtain ⟨b,k1,k2,k3⟩:=hs;exact ⟨b,k1,Bn k2 S λr e=>(hr r e).2,k3⟩) ?assign ?body ?done ?stop;case assign=> rintro ly pre x W K ⟨hp,a⟩ O;have ba:=a.e.lt;have F:=hT hp;clear hp;unfold mW;gi_wp2;exact O _ _ ((W_ _ _).from _) (Kp.grown (Wa W _ none) a.g.lt (λr e=>by cases e)) ⟨F.out,a.alloc _⟩ ⟨W.heap.size,ba,heap_alloc_new W _,rfl⟩
 case body=>
  rintro ly pre x a' W hl ⟨r,hr⟩ ⟨hp,a⟩ ⟨b,bo,bX,rfl⟩ ba;have x0:=bX.c0;have x1:=bX.c1;have m0:=a.m.cell;have g0:=a.g.c0;have g1:=a.g.c1;obtain ⟨f0,f1⟩:=a.g.frozen;have e0:=a.e.cell;have e1:=a.e.frozen;have F:=hT hp;have t:=hT a;clear hp a;by_cases i:m<=x.2;·
   have d2:decide (x.2>=m):=by simpa using i
   have HE:=hT i;clear i;gi_wp2;exact ⟨(((Wd _ _ _).trans (Wd _ _ _)).trans (Wd _ _ _)).from _,x,⟨rfl,⟨pre,rfl,F.out⟩,HE.out⟩,t.out.set _ _ _⟩
  ·have d2:decide (x.2>=m)= false:=by simpa using i
   have HE:=hT i;clear i;gi_wp2;refine ⟨KeepsFrom.refl _ _,?_,?_,t.out⟩;· exact Kp.grown (row:=none) ⟨rfl,rfl,rfl,nm _,λ_ _ _=>rfl⟩ t.out.g.lt (λr e=>by cases e)
   ·exact F.out.more (by have:=HE.out;omega)
 case done=> rintro D ys W hD rfl ⟨hp,a⟩ O;have g0:=a.g.c0;have g1:=a.g.c1;obtain ⟨f0,f1⟩:=a.g.frozen;have e0:=a.e.cell;have e1:=a.e.frozen;have HQ:=hT (oS ⟨HO.out,H1.out⟩ (u_ hp));have t:=hT (a.set 0 0 111);clear hp a;gi_wp2;refine ⟨by simp, .inl ⟨_,_,rfl,run_takeDeferred (w:=((W.setCell ⟨w.heap.size+2,0,none⟩ (zI 0)).setCell ⟨w.heap.size+2,1,none⟩ (zI 0)).setCell ⟨w.heap.size+3,0,none⟩ (zI 111)) (Bq O hD af),?_⟩⟩;have v:=t.out.put (.deferred none) (Bq O hD af) rfl (by omega);obtain ⟨q1,q2,q3⟩:=HQ.out;exact ⟨_,rz (p:=6) (u:=7) rfl _ _ (w.heap.size+2) (w.heap.size+3) _ _ _ rfl rfl v.g v.e,by rw [q1,q2,q3],v.aL⟩
 case stop=> rintro D c pre W hD H ⟨x,⟨rfl,⟨pr,rfl,ad⟩,i⟩,a⟩ O;have HQ:=hT (oT ⟨HO.out,H1.out⟩ (Bl H ad i));have t:=hT a;clear H ad i a;gi_wp2;refine ⟨by simp, .inl ⟨_,_,rfl,run_takeDeferred O,?_⟩⟩;have v:=t.out.put (.deferred none) O rfl (by omega);obtain ⟨q1,q2,q3⟩:=HQ.out;exact ⟨_,rz (p:=6) (u:=7) rfl _ _ (w.heap.size+2) (w.heap.size+3) _ _ _ rfl rfl v.g v.e,by rw [q1,q2,q3],v.aL⟩
end Xm
end
section
namespace Xm
open Go.RowKit
def jr (s l:Int) (u:zX):Int:=if aU s l u= true then free s l u else 0
structure In (u:zX) (n:Nat):Prop where
 size:n= u.length
 small:Small u
 len:n<=maxLen
 bytes:n*16<=140737488355328
theorem Oo (s l m:Int) {u:zX} {n:Nat} (hi:In u n) (p:Option Addr) (c:Nat) (w:World) (hu:bd w p u): zF 111 #[zM s l,zI m, .slice p n c] w λe w'=>e= zV (zM (cJ s l m u) (cK s l m u)) (zI (dA s l m u))/\zB w w':=by
 by_cases h:aU s l u= true/\1<=m;· exact On s l m u n hi.size p c w hu hi.small hi.len hi.bytes h.1 h.2
 ·obtain ⟨d,b,a⟩:=uZ (l:=l) h;rw [d,b,a];exact Oj s l m u n hi.size p c w hu hi.small hi.len hi.bytes h
theorem Oq (s l:Int) {u:zX} {n:Nat} (hi:In u n) (p:Option Addr) (c:Nat) (w:World) (hu:bd w p u): zF 77 #[zM s l, .slice p n c] w (zJ (zI (jr s l u)) w):=by unfold jr;cases h:aU s l u with
 | false=>exact Od s l u n hi.size p c w hu hi.small hi.len hi.bytes h
 | true=>exact Of s l u n hi.size p c w hu hi.small hi.len hi.bytes h
theorem Ot (s l:Int) {u:zX} {n:Nat} (hi:In u n) (p:Option Addr) (c:Nat) (w:World) (hu:bd w p u): zF 107 #[zM s l, .slice p n c] w (zJ (.bool (aU s l u)) w):= Oc s l u n hi.size p c w hu hi.small hi.len hi.bytes
variable{u:zX}
theorem OE {s l:Int} (h:Ok s l u) {g:Int×Int} (a:g∈bF s l u):1<=g.2/\s<=g.1/\g.1+g.2<=s+l/\∀t,g.1<=t->t<g.1+g.2->has u t= false:=by obtain ⟨_,_,b,_⟩:=fo.1 h.1;have:=(ra (has u) s l.toNat).each g (by simpa [bF] using a);rw [Xd b]at this;exact this
theorem OG {x y:Int×Int} (a:x∈u) (h1:1<=x.2) (e:1<=y.2) (b:∀t,y.1<=t->t<y.1+y.2->has u t= false):dM x y:=by
 by_cases h:dM x y;· exact h
 ·exfalso;have n1:¬x.1+x.2<=y.1:=λc=>h (.inl c);have d:¬y.1+y.2<=x.1:=λc=>h (.inr c);by_cases c:x.1<=y.1;· have:=b y.1 (T9 _) (by omega);rw [qX]at this;exact this x a ⟨c,by omega⟩
  ·have:=b x.1 (by omega) (by omega);rw [qX]at this;exact this x a ⟨T9 _,by omega⟩
variable{m:Int}{gs:zX}
theorem OH {g:Int×Int} (h:room m gs= some g):g∈gs/\m<=g.2:=by unfold room at h;exact ⟨List.mem_of_find?_eq_some h,by simpa using List.find?_some h⟩
theorem OI {s l:Int} (h:aU s l u) (e:dA s l m u= 0): aU s l (u ++ [(cJ s l m u,cK s l m u)])= true/\jr s l (u ++ [(cJ s l m u,cK s l m u)])= jr s l u - m/\cJ s l m u<=9223372036854775807:=by
 have a:=iO.1 h;obtain ⟨p,o,n,k⟩:=fo.1 a.1;by_cases h1:1<=m;· cases hr:room m (bF s l u) with
  | none=>rw [(oS ⟨h,h1⟩ hr).2.2]at e;cases e
  | some g =>
  obtain ⟨i,f,_⟩:=oT ⟨h,h1⟩ hr;rw [i,f];obtain ⟨j,hm⟩:=OH hr;obtain ⟨g1,g2,g3,g4⟩:=OE a j;have b:∀t,g.1<=t->t<g.1+m->has u t= false:=λt h1 h2=>g4 t h1 (by omega);have d:aU s l (u ++ [(g.1,m)]):=by
   refine iO.2 ⟨a.1,λx hx=>?_,List.pairwise_append.2 ⟨a.2.2,Xc _ _,λx hx y hy=>?_⟩⟩;·
    rcases RR.1 hx with c|c;· exact a.2.1 x c
    ·rw [H5.1 c];exact eV.2 ⟨h1,g2,by show g.1+m<=s+l;omega⟩
   ·rw [H5.1 hy];exact OG hx (eV.1 (a.2.1 x hx)).1 h1 b
  refine ⟨d,?_,by omega⟩;unfold jr;rw [if_pos d,if_pos h,uO,uO];have:=Ng (has u) (has (u ++ [(g.1,m)])) s g.1 m.toNat g2 (λt h1 h2=>b t h1 (by omega)) (λt=>by rw [M9,show (m.toNat:Int)= m by omega];simp [has]) l.toNat;rw [if_neg (by omega),if_pos (by omega)]at this;omega
 ·rw [(uZ (l:=l) (u:=u) (s:=s) (m:=m) (λc=>h1 c.2)).2.2]at e;cases e
theorem BB (s l:Int) (w:World):zF 216 #[zM s l] w (zJ (.bool (dW s l)) w):=by have c:=hT (b_ w (zE s l 65));have a:=Bx.new w s l;have c0:=a.c0;have c1:=a.c1;clear a;cases h1:decide (0<=s)<;>cases h2:decide (s<=1048576)<;>cases h3:decide (0<=l);all_goals have b:=hT (show dW s l= _ by unfold dW;rw [h1,h2,h3]);simp only [Bool.true_and,T5,UX,Bool.and_true]at b;go_enter func216,ntmps216;go_wp2_with fail;go_ret;exact ⟨by rw [b.out];rfl,c.out⟩
theorem O9 (a b c d:Int) (w:World) (h1: -9223372036854775808<=a+b) (o:a+b<=9223372036854775807) (n: -9223372036854775808<=c+d) (m:c+d<=9223372036854775807): zF 217 #[zM a b, zM c d] w (zJ (.bool (decide (dM (a,b) (c,d)))) w):=by obtain ⟨p,e⟩:=eX2 ((w.alloc (zE a b 65)).alloc (zE c d 65));obtain ⟨l,i,g,j⟩:=nW w a b c d p e;have k:=hT l;have t:=i.c0;have a1:=i.c1;have s:=g.c0;have b1:=g.c1;have r:=rr _ ⟨h1,o⟩;have q:=rr _ ⟨n,m⟩;clear l i g j h1 o n m;cases d1:decide (a+b<=c) with
 | true => have f:=hT (show decide (dM (a,b) (c,d))= true by simp only [decide_eq_true_eq]at d1⊢;exact .inl d1);go_enter func217,ntmps217;go_wp2_with fail;clear e;go_wp2_with fail;go_ret;exact ⟨by rw [f.out];rfl,k.out⟩
 | false => cases d2:decide (c+d<=a) with
 | true => have f:=hT (show decide (dM (a,b) (c,d))= true by simp only [decide_eq_true_eq]at d2⊢;exact .inr d2);go_enter func217,ntmps217;go_wp2_with fail;clear e;go_wp2_with fail;go_ret;exact ⟨by rw [f.out];rfl,k.out⟩
 | false => have f:=hT (show decide (dM (a,b) (c,d))= false by simp only [decide_eq_false_iff_not]at d1 d2⊢;exact λh=>Or.elim h d1 d2);go_enter func217,ntmps217;go_wp2_with fail;clear e;go_wp2_with fail;go_ret;exact ⟨by rw [f.out];rfl,k.out⟩
theorem O_ (s l:Int) (u:zX) (n:Nat) (K:n= u.length) (J:n<=9223372036854775807) (p:Option Addr) (c:Nat) (t:Int) (w:World) (hu:bd w p u) (I:dW s l) (r:∀x∈u,bH s l x): zF 176 #[.slice p n c,zI t] w (zJ (.bool (has u t)) w):=by
 have Q:=hT hu;have M:=hT K;have T:=hT r;have R:=hT I;clear hu K r I;go_enter func176,ntmps176;go_wp2_with fail;go_loopw [5] (λi wr=>∃k y:Nat,k<=n/\i= zI k/\wr= w.drewN y/\Hid (∀j (h:j<u.length),j<k->¬(u[j].1<=t/\t<u[j].1+u[j].2))) (λi _=>n - (CS i).toNat);case atStart=>exact ⟨0,0,yb _,rfl,rfl,hT (λj _ h=>absurd h (by omega))⟩
 case round=>
  obtain ⟨k,y,hk,rfl,rfl,f⟩:=hrel;by_cases z:k<n;·
   have a:k<u.length:=by rw [<-M.out];exact z
   have q:u≠ []:=by intro e;rw [e]at a;simp at a
   obtain ⟨b,off,rfl,B,L⟩:=Q.out q;obtain ⟨E,D⟩:=L k a;obtain ⟨⟨m,v⟩,o⟩:=eX1 (u[k]);have d:=T.out _ (SR a);rw [<-o]at E D d;obtain ⟨H,G,F⟩:=eV.1 d;obtain ⟨s1,s2,O,N⟩:=fo.1 R.out;dsimp only at E D H G F;have U:lg.wrap (m+v)= m+v:=rr _ (by omega);have C:Hid (∀h:k<u.length,u[k]= (m,v)):=λ_=>o.symm;have S:=hT a;have hd:decide ((k:Int) < (n:Int)):=by simp;omega
   have A:decide (k<n):=by simp;omega
   have P:(k:Int) < (n:Int):=by omega
   clear o a q L B d H G F s1 s2 O N;cases d1:decide (m<=t) with
    | false =>
    have g:Hid (∀j (h:j<u.length),j<k+1->¬(u[j].1<=t/\t<u[j].1+u[j].2)):=hT λj h hj=>by
     by_cases e:j= k;· subst e;rw [C.out];simp at d1;simp;omega
     ·exact f.out j h (by omega)
    go_wp2_with fail;go_quiet (fail);go_wp2_with fail;go_roundw;case rel=>exact ⟨k+1,_,by omega,by go_num,rfl,g⟩
    case measure=>simp [CS];omega
    | true => cases d2:decide (t<m+v) with
    | false =>
    have g:Hid (∀j (h:j<u.length),j<k+1->¬(u[j].1<=t/\t<u[j].1+u[j].2)):=hT λj h hj=>by
     by_cases e:j= k;· subst e;rw [C.out];simp at d2;simp;omega
     ·exact f.out j h (by omega)
    go_wp2_with fail;go_quiet (fail);go_wp2_with fail;go_roundw;case rel=>exact ⟨k+1,_,by omega,by go_num,rfl,g⟩
    case measure=>simp [CS];omega
    | true => have g:=hT (show has u t= true from cO.2 ⟨_,SR S.out,by rw [C.out];simp at d1 d2;exact ⟨d1,d2⟩⟩);go_wp2_with fail;go_quiet (fail);go_wp2_with fail;go_ret;exact ⟨by rw [g.out];rfl,oK (oK zR _) _⟩
  ·have hd:decide ((k:Int) < (n:Int))= false:=by simp;omega
   have A:decide (k<n)= false:=by simp;omega
   have g:=hT (show has u t= false from qX.2 λx o=>by obtain ⟨j,h,e⟩:=Ug o;rw [<-e];exact f.out j h (by have:=M.out;omega));go_wp2_with fail;go_ret;exact ⟨by rw [g.out];rfl,oK zR y⟩
structure RW (w wr:World) (s l:Int) (p:Option Addr) (u:zX) (k:Nat):Prop where
 aL:zB w wr
 box:Bx wr w.heap.size s l
 row:bd wr p u
 ok:∀i (h:i<u.length),i<k->bH s l u[i]= true
 ap:∀i j (h:j<u.length) (hij:i<j),j<k->dM (u[i]'(by omega)) u[j]
variable{w:World}{p:Option Addr}{k:Nat}
theorem RW.next {wr w':World} {s l:Int} (h:RW w wr s l p u k) (hb:zB wr w'):RW w w' s l p u k:= ⟨h.aL.trans (hb.mono h.aL.size),h.box.next hb,h.row.next hb,h.ok,h.ap⟩
theorem RW.more {wr:World} {s l:Int} (h:RW w wr s l p u k) (hk:k<u.length) (hi:bH s l u[k]) (a:∀i (h:i<k),dM (u[i]'(by omega)) u[k]):RW w wr s l p u (k+1):= ⟨h.aL,h.box,h.row,λi h1 h2=>by
 by_cases e:i= k;· subst e;exact hi
 ·exact h.ok i h1 (by omega),λi j h1 h2 h3=>by
 by_cases e:j= k;· subst e;exact a i h2
 ·exact h.ap i j h1 h2 (by omega)⟩
theorem rG {s l:Int} (h:k<u.length) (hi:bH s l u[k]= false):aU s l u= false:=by unfold aU;refine decide_eq_false λ⟨_,c,_⟩=>?_;rw [c _ (SR h)]at hi;cases hi
theorem Pb {s l:Int} {i j:Nat} (b:j<u.length) (a:i<j) (h:¬dM (u[i]'(by omega)) u[j]):aU s l u= false:=by unfold aU;exact decide_eq_false λ⟨_,_,c⟩=>h (Ub.1 c i j (by omega) b a)
theorem RW.done {wr:World} {s l:Int} (h:RW w wr s l p u k) (a:dW s l) (hk:u.length<=k):aU s l u= true:= iO.2 ⟨a,λx hx=>by obtain ⟨i,hi,e⟩:=Ug hx;rw [<-e];exact h.ok i hi (by omega),Ub.2 λi j hi hj hij=>h.ap i j hj hij (by omega)⟩
theorem rH {s l a b:Int} (h:b<1\/a<s\/s+l<=a\/s+l - a<b):bH s l (a,b)= false:=by rw [<-U2,eV];dsimp only;omega
theorem Pf (s l:Int) (n c:Nat) (p:Option Addr) (w:World) (d:dW s l= false):zF 175 #[zM s l, .slice p n c] w (zJ (.bool false) w):=by have e:=hT (b_ w (zE s l 65));have a:=Bx.new w s l;have c0:=a.c0;have c1:=a.c1;have R:=hT (λw1=>BB s l w1);rw [d]at R;clear a d;go_enter func175,ntmps175;go_wp2_with fail;refine zg (R.out _) λw1 hb=>?_;have b:=zT e hb;clear hb c0 c1;go_wp2_with fail;go_ret;exact ⟨rfl,b.out⟩
theorem lL (s l:Int) (u:zX) (n:Nat) (hn:n= u.length) (aw:n<=4611686018427387904) (p:Option Addr) (c:Nat) (w:World) (hu:bd w p u): zF 175 #[zM s l, .slice p n c] w (zJ (.bool (aU s l u)) w):=by cases hr:dW s l with
 | false=>exact (Pf s l n c p w hr).mono λe w' ⟨h1,h2⟩=>⟨by rw [h1,show aU s l u= false from decide_eq_false λc=>(by rw [c.1]at hr;cases hr)],h2⟩
 | true =>
 have HB:=hT (b_ w (zE s l 65));have B:=Bx.new w s l;have y:=hT B;have c0:=B.c0;have c1:=B.c1;have R:=hT (λw1=>BB s l w1);rw [hr]at R;have HU:=hT (hu.next (b_ w (zE s l 65)));have HN:=hT hn;have HR:=hT hr;clear B hr hu hn;go_enter func175,ntmps175;go_wp2_with fail;refine zg (R.out _) λw1 hb=>?_;have HW:Hid (RW w w1 s l p u 0):=⟨zH HB hb,y.out.next hb,HU.out.next hb,λi _ h=>absurd h (by omega),λi j _ _ h=>absurd h (by omega)⟩;clear hb c0 c1 HB y HU;go_wp2_with fail;go_loopw [6] (λi wr=>∃k:Nat,k<=n/\i= zI k/\Hid (RW w wr s l p u k)) (λi _=>n - (CS i).toNat);case atStart=>exact ⟨0,yb _,rfl,HW⟩
 case round=>
  obtain ⟨k,hk,rfl,hw⟩:=hrel;by_cases Y:k<n;·
   have r:k<u.length:=by rw [<-HN.out];exact Y
   have q:u≠ []:=by intro e;rw [e]at r;simp at r
   obtain ⟨b,off,rfl,d,P⟩:=hw.out.row q;obtain ⟨W,V⟩:=P k r;obtain ⟨⟨a,f⟩,B⟩:=eX1 (u[k]);rw [<-B]at W V;dsimp only at W V;have y:Hid (∀h:k<u.length,u[k]= (a,f)):=λ_=>B.symm;have D:=hT r;obtain ⟨s1,s2,F,E⟩:=fo.1 HR.out;have bl:(k:Int) < (n:Int):=by omega
   have z:=hw.out.next (b_ wr (zE a f 65));have g0:=z.box.c0;have g1:=z.box.c1;have t:=hT z;have e1:lg.wrap (s+l)= s+l:=rr _ (by omega);clear B r q P d z;cases d1:decide (f<1) with
    | true => have v:=hT (rG (s:=s) (l:=l) D.out (by rw [y.out];exact rH (.inl (by simpa using d1))));clear s1 s2 F E;go_wp2_with fail;go_ret;exact ⟨by rw [v.out];rfl,t.out.aL⟩
    | false => cases d2:decide (a<s) with
    | true => have v:=hT (rG (s:=s) (l:=l) D.out (by rw [y.out];exact rH (.inr (.inl (by simpa using d2)))));clear s1 s2 F E;go_wp2_with fail;go_ret;exact ⟨by rw [v.out];rfl,t.out.aL⟩
    | false => cases d3:decide (s+l<=a) with
    | true => have v:=hT (rG (s:=s) (l:=l) D.out (by rw [y.out];exact rH (.inr (.inr (.inl (by simpa using d3))))));clear s1 s2 F E;go_wp2_with fail;go_ret;exact ⟨by rw [v.out];rfl,t.out.aL⟩
    | false => have J:lg.wrap (s+l - a)= s+l - a:=rr _ (by simp at d2 d3;omega);cases d5:decide (s+l - a<f) with
    | true => have v:=hT (rG (s:=s) (l:=l) D.out (by rw [y.out];exact rH (.inr (.inr (.inr (by simpa using d5))))));clear s1 s2 F E;go_wp2_with fail;go_ret;exact ⟨by rw [v.out];rfl,t.out.aL⟩
    | false =>
    have O:bH s l (a,f):=eV.2 (by simp at d1 d2 d3 d5;dsimp only;omega);have HI:=hT O;have BN:=hT (Bx.new wr a f);have bf:s+l<=2097152:=by omega
    clear O s1 s2 F E;go_wp2_with fail;obtain ⟨x,Q⟩:=eX1 wr.heap.size;rw [<-Q]at BN⊢;clear W V g0 g1 Q;go_loopw [8] (λi wv=>∃j:Nat,j<=k/\i= zI j/\Hid (RW w wv s l (some ⟨b,off,none⟩) u k)/\Hid (Bx wv x a f)/\Hid (∀i (h:i<u.length),i<j->dM u[i] (a,f))) (λi _=>k - (CS i).toNat);case atStart=>exact ⟨0,yb _,rfl,t,BN,λi _ h=>absurd h (by omega)⟩
    case round=>
     obtain ⟨j,hj,rfl,M,A,S⟩:=hrel;by_cases N:j<k;·
      have m:j<u.length:=by have:=D.out;omega
      have q:u≠ []:=by intro e;rw [e]at m;simp at m
      obtain ⟨b2,ao,J,d,P⟩:=M.out.row q;injection J with J;injection J with J e3;subst J e3;obtain ⟨I,H⟩:=P j m;obtain ⟨⟨L,K⟩,X⟩:=eX1 (u[j]);have G:=M.out.ok j m N;rw [<-X]at I H G;dsimp only at I H;obtain ⟨i1,i2,i3⟩:=eV.1 G;obtain ⟨x1,x2,x3⟩:=eV.1 HI.out;obtain ⟨s1,s2,F,E⟩:=fo.1 HR.out;dsimp only at i1 i2 i3 x1 x2 x3;have HY:Hid (∀h:j<u.length,u[j]= (L,K)):=λ_=>X.symm;have HJ:=hT m;have C:=hT (λw1=>O9 L K a f w1 (by omega) (by omega) (by omega) (by omega));have ab:decide ((j:Int) < (k:Int)):=by simp;omega
      have Z:decide (j<k):=by simp;omega
      have bg:decide ((j:Int) < (n:Int)):=by simp;omega
      have bb:decide (j<n):=by simp;omega
      have ba:(j:Int) < (n:Int):=by omega
      have U:=A.out.c0;have T:=A.out.c1;have o:=A.out.lt;clear X G i1 i2 i3 x1 x2 x3 s1 s2 F E m q P;cases hap2:decide (dM (L,K) (a,f)) with
       | true =>
       rw [hap2]at C;go_wp2_with fail;go_region_held3 (λw'=>(w'.cell? ⟨b,off+j*2,none⟩= some (zI L)/\w'.cell? ⟨b,off+j*2+1,none⟩= some (zI K))/\w'.cell? (zD x 0)= some (zI a)/\w'.cell? (zD x 1)= some (zI f)) (first|go_keep|(refine ⟨⟨?_,?_⟩,?_,?_⟩<;>assumption)|(exact ⟨⟨(g.out.cell (p:=⟨b,off+j*2,none⟩) d).trans I,(g.out.cell (p:=⟨b,off+j*2+1,none⟩) d).trans H⟩,(g.out.cell (p:=(zD x 0)) o).trans U,(g.out.cell (p:=(zD x 1)) o).trans T⟩)) (first|(go_at_call 217;refine zg (C.out _) λw4 hb4=>?_;have g:Hid (zB wr w4):=zR.drew.trans hb4;clear hb4));have HV:Hid (RW w w4 s l (some ⟨b,off,none⟩) u k):=M.out.next g.out;have ad:Hid (Bx w4 x a f):=A.out.next g.out;have HA:Hid (∀i (h:i<u.length),i<j+1->dM u[i] (a,f)):=λi h hi=>by
        by_cases e:i= j;· subst e;rw [HY.out];simpa using hap2
        ·exact S.out i h (by omega)
       clear hap2 I H U T o d g;go_wp2_with fail;go_roundw;case rel=>exact ⟨j+1,by omega,by go_num,HV,ad,HA⟩
       case measure=>simp [CS];omega
       | false => rw [hap2]at C;go_wp2_with fail;go_region_held3 (λw'=>(w'.cell? ⟨b,off+j*2,none⟩= some (zI L)/\w'.cell? ⟨b,off+j*2+1,none⟩= some (zI K))/\w'.cell? (zD x 0)= some (zI a)/\w'.cell? (zD x 1)= some (zI f)) (first|go_keep|(refine ⟨⟨?_,?_⟩,?_,?_⟩<;>assumption)|(exact ⟨⟨(g.out.cell (p:=⟨b,off+j*2,none⟩) d).trans I,(g.out.cell (p:=⟨b,off+j*2+1,none⟩) d).trans H⟩,(g.out.cell (p:=(zD x 0)) o).trans U,(g.out.cell (p:=(zD x 1)) o).trans T⟩)) (first|(go_at_call 217;refine zg (C.out _) λw4 hb4=>?_;have g:Hid (zB wr w4):=zR.drew.trans hb4;clear hb4));have af:=hT (M.out.next g.out).aL;have v:=hT (Pb (s:=s) (l:=l) D.out N (by rw [y.out,HY.out];simpa using hap2));clear hap2 I H U T o d g;go_wp2_with fail;go_ret;exact ⟨by rw [v.out];rfl,af.out⟩
     ·have ab:decide ((j:Int) < (k:Int))= false:=by simp;omega
      have Z:decide (j<k)= false:=by simp;omega
      have HV:Hid (RW w wr s l (some ⟨b,off,none⟩) u (k+1)):=M.out.more D.out (by rw [y.out];exact HI.out) (λi hi=>by rw [y.out];exact S.out i (by have:=D.out;omega) (by omega));go_wp2_with fail;go_roundw;case rel=>exact ⟨k+1,by omega,by go_num,HV⟩
      case measure=>simp [CS];omega
  ·have v:=hT (hw.out.done HR.out (by have:=HN.out;omega));go_wp2_with fail;go_ret;exact ⟨by rw [v.out];rfl,hw.out.aL⟩
theorem BC (s l:Int) (u:zX) (n:Nat) (f:n= u.length) (a:n<=4611686018427387904) (p:Option Addr) (c:Nat) (w:World) (hu:bd w p u) (h:aU s l u= false): zF 131 #[zM s l, .slice p n c] w λe w'=>e= zV (AF none 0 0) (zI 1)/\zB w w':=by have g:=hT (b_ w (zE s l 65));have b:=Bx.new w s l;have c0:=b.c0;have c1:=b.c1;have R:=hT (lL s l u n f a p c _ (hu.next g.out));rw [h]at R;clear b h hu f;go_enter func131,ntmps131;go_wp2_with fail;refine zg R.out λw1 hb=>?_;have d:=zT g hb;clear hb c0 c1;go_wp2_with fail;go_ret2;exact ⟨rfl,d.out⟩
theorem Pg (l:zX) (x:Int×Int):(cells (l ++ [x])).set (l.length*2+1) (zI (x.2+1))= cells (l ++ [(x.1,x.2+1)]):=by rw [mU,mU,List.set_append_right _ _ (by rw [gk];omega),gk,show l.length*2+1 - l.length*2= 1 by omega,cells_one,cells_one];rfl
variable{base size n:Nat}{e:TypeId}{v:Value}{xs:List Value}
theorem BD (h:w.ownsRow base e size v n xs):∃a c,v= .slice a n c:=by
 rcases h.2 with ⟨h,b⟩|⟨g,cap,cur,h,_⟩;· exact ⟨none,0,by rw [h,b]⟩
 ·exact ⟨_,_,h⟩
theorem Ph {base':Nat} (h:w.ownsRow base e size v n xs) (hb:base'<=base):w.ownsRow base' e size v n xs:= ⟨h.1,h.2.imp id λ⟨g,cap,cur,hv,hg,r⟩=>⟨g,cap,cur,hv,A6 hb hg,r⟩⟩
theorem Pj (h:w.ownsRow base e size v (n+1) xs):∃g cap,v= AF (some ⟨g,0,none⟩) (n+1) cap:=by
 rcases h.2 with ⟨_,b⟩|⟨g,cap,cur,a,_⟩;· omega
 ·exact ⟨g,cap,a⟩
theorem oR (h:w.ownsRow base e size v n xs) (r:Nat) (a:v.ownBlock= some r):base<=r:=by
 rcases h.2 with ⟨rfl,_⟩|⟨g,cap,cur,rfl,b,c,_⟩;· simp [TS]at a
 ·simp [TS]at a;subst a;exact b
theorem vi (s l:Int) (u:zX) (n:Nat) (hn:n= u.length) (ad:n<=4611686018427387904) (p:Option Addr) (c:Nat) (w:World) (hu:bd w p u) (h:aU s l u): zF 131 #[zM s l, .slice p n c] w λe w'=>∃v,e= zV v (zI 0)/\w'.ownsRow w.heap.size 65 2 v (bF s l u).length (cells (bF s l u))/\zB w w':=by
 obtain ⟨i0,hi,aw,ao,af⟩:=info_parts rb;obtain ⟨J,P⟩:=eX2 (w.alloc (zE s l 65));have X:Bx J w.heap.size s l:=by rw [<-P];exact Bx.new _ _ _
 have bq:J.heap.size= w.heap.size+1:=by rw [<-P];simp
 have hB:zB w J:=by rw [<-P];exact b_ _ _
 have HB:=hT hB;have HX:=hT X;have HU:=hT hu;have c0:=X.c0;have c1:=X.c1;have R:=hT (lL s l u n hn ad p c J (hu.next hB));rw [h]at R;have M:=iO.1 h;have HA:=hT (λt w1 (hu1:bd w1 p u)=>O_ s l u n hn (by omega) p c t w1 hu1 M.1 M.2.1);obtain ⟨s1,s2,s3,s4⟩:=fo.1 M.1;obtain ⟨L,hL⟩:∃L:Nat,l= (L:Int):=⟨l.toNat,by omega⟩;obtain ⟨F,Y⟩:∃F:Nat->List (Int×Int)×Bool,F= acc (has u) s:=⟨_,rfl⟩;have HG:=hT (show bF s l u= (F L).1.reverse by unfold bF;rw [Y,hL];rfl);have F0:=hT (show F 0= ([],false) by rw [Y];rfl);have FY:=hT (show∀k:Nat,has u (s+ (k:Int))= true->F (k+1)= ((F k).1,false) from λk e=>by rw [Y];exact oJ e);have FN:=hT (show∀k:Nat,has u (s+ (k:Int))= false->F (k+1)= (put (F k).1 (F k).2 (s+ (k:Int)),true) from λk e=>by rw [Y];exact q_ e);have FA:=hT (show∀k:Nat,Acc (has u) s k (F k).1 (F k).2 from λk=>by rw [Y];exact ra _ _ _);clear Y;have e1:lg.wrap (s+l)= s+l:=rr _ (by omega);have bt:L<=1048576:=by omega
 have H:=hT hL;clear X hB hu h hn M hL;go_enter func131,ntmps131;go_wp2_with fail;clear P;refine zg R.out λw1 hb=>?_;have HW:Hid (Below (w.heap.size+1) J w1):=hb.mono (by omega);have c0:=(hb.cell (p:=(zz w 0)) (by show w.heap.size<_;omega)).trans c0;clear hb;go_wp2_with fail;go_loopw [7,8,9] (λv b i wr=>∃k:Nat,k<=L/\i= zI (s+ (k:Int))/\b= .bool (F k).2/\Hid (wr.ownsRow (w.heap.size+1) 65 2 v (F k).1.reverse.length (cells (F k).1.reverse))/\Hid (Below (w.heap.size+1) J wr)) (λ_ _ i _=>(s+l - CS i).toNat);case atStart=>exact ⟨0,yb _,by simp,by rw [F0.out],by rw [F0.out];exact hT (Ts _ _ _ _),HW⟩
 case round=>
  obtain ⟨k,hk,rfl,rfl,a,f⟩:=hrel;have N:=HX.out.below f.out (by omega);have y0:=N.c0;have y1:=N.c1;have K:w.heap.size+1<=wr.heap.size:=by have:=f.out.size;omega
  have O:=HB.out.trans (f.out.mono (by omega));have bm:=hT O;by_cases bs:k<L;·
   have HS:=hT (HA.out (s+ (k:Int)) wr (HU.out.next O));obtain ⟨t,B⟩:=eX1 (s+ (k:Int));have hd:decide (t<s+l):=by have:=H.out;simp;omega
   have e2:lg.wrap (t+1)= t+1:=rr _ (by omega);have Z:=hT B;rw [<-B]at HS⊢;clear N O;cases hh:has u t with
    | true =>
    have HY:=hT (FY.out k (by rw [<-B];exact hh));rw [hh]at HS;have o:=a.out;clear B hh;go_wp2_with fail;refine zg HS.out λw2 hb=>?_;have E:=hT (a.out.kept (⟨hb.os,hb.tape,hb.output,hb.size,λi hi _=>hb.block i hi⟩:wr.grownBy w2 none) (by cases (TS _)<;>simp));have I:Hid (Below (w.heap.size+1) J w2):=f.out.trans (hb.mono K);clear hb o;go_wp2_with fail;go_roundw;case rel=>exact ⟨k+1,by omega,by have:=Z.out;simp;omega,by rw [HY.out],by rw [HY.out];exact E,I⟩
    case measure=>have:=Z.out;have:=H.out;simp [CS];omega
    | false => have d:=FN.out k (by rw [<-B];exact hh);rw [<-B]at d;have z:=FA.out k;rw [hh]at HS;obtain ⟨A,hA⟩:=eX1 ((F k).1);obtain ⟨b,U⟩:=eX1 ((F k).2);rw [<-hA,<-U]at d z;rw [<-hA]at a;rw [<-U];have hlen:=z.len;clear hA U hh;cases b with
    | true =>
    obtain ⟨x,r,rfl,X⟩:=z.head rfl;obtain ⟨x1,x2,x3,_⟩:=z.each x (by simp);rw [qY]at d;obtain ⟨q,S⟩:=eX1 r.reverse;rw [Wc,<-S,DC,T3]at a;have y:(F (k+1)).1.reverse= q ++ [(x.1,x.2+1)]:=by rw [d,S,Wc]
    have C:(F (k+1)).2:=by rw [d]
    obtain ⟨m,hm⟩:=eX1 q.length;rw [<-hm]at a;have bb:m<=1048576:=by rw [hm,S,Xf];simp at hlen;omega
    obtain ⟨g,cap,rfl⟩:=Pj a.out;have Q:=hT a.out;have W:=hT y;have V:=hT C;have G:=hT hm;have e3:lg.wrap (x.2+1)= x.2+1:=rr _ (by omega);have i2:(m:Int) +1 - 1= (m:Int):=by omega
    clear d z hlen X x1 x2 x3 S y C hm a B;go_wp2_with fail;refine zg HS.out λw2 hb=>?_;have o:=Q.out.kept (⟨hb.os,hb.tape,hb.output,hb.size,λi hi _=>hb.block i hi⟩:wr.grownBy w2 none) (by simp [TS]);have r0:w2.cell? ⟨g,m*2+1,none⟩= some (zI x.2):=by rw [o.cellAt _ (by omega),mU,List.getElem?_append_right (by rw [gk];have:=G.out;omega),gk,<-G.out,show m*2+1 - m*2= 1 by omega,cells_one];rfl
    have r1:=o.frozenAt (m*2+1);have bg:=oR o g rfl;have ST:=hT (o.stored (m*2+1) (zI (x.2+1)));have I:Hid (Below (w.heap.size+1) J w2):=f.out.trans (hb.mono K);clear hb o;go_wp2_with fail;go_roundw;case rel=> refine ⟨k+1,by omega,by have:=Z.out;simp;omega,by rw [V.out],?_,hT (I.out.setCell (p:=⟨g,m*2+1,none⟩) bg _)⟩;rw [W.out,<-Pg,DC,T3,<-G.out];exact ST.out.1
    case measure=>have:=Z.out;have:=H.out;simp [CS];omega
    | false =>
    rw [qZ]at d;have y:(F (k+1)).1.reverse= A.reverse ++ [(t,1)]:=by rw [d,Wc]
    have C:(F (k+1)).2:=by rw [d]
    obtain ⟨q,S⟩:=eX1 A.reverse;rw [<-S]at y a;obtain ⟨m,hm⟩:=eX1 q.length;rw [<-hm]at a;have bb:m<=1048576:=by rw [hm,S,Xf];omega
    obtain ⟨pa,pc,rfl⟩:=BD a.out;have Q:=hT a.out;have W:=hT y;have V:=hT C;have G:=hT hm;clear d z hlen S y C hm a B;go_wp2_with fail;refine zg HS.out λw2 hb=>?_;have E:=hT (Q.out.kept (⟨hb.os,hb.tape,hb.output,hb.size,λi hi _=>hb.block i hi⟩:wr.grownBy w2 none) (by cases (TS _)<;>simp));have I:Hid (Below (w.heap.size+1) J w2):=f.out.trans (hb.mono K);have ba:=A6 K hb.size;have HO:Hid (∀r,(AF pa m pc).ownBlock= some r->w.heap.size+1<=r):=λr hr=>oR Q.out r hr;clear hb;go_wp2_with (at_builtin;refine wpList_append_own _ rfl _ _ 121 rfl (w.heap.size+1) 65 i0 _ 2 16 underlying121 hi aw ao af rfl (by decide) (.slice pa m pc) m (cells q) rfl (E.out.alloc _) ⟨w2.heap.size,0,none⟩ 1 1 [zI t,zI 1] rfl rfl (World.news_of_block (cs:=#[zI t,zI 1]) (heap_alloc_new w2 _)) (by simp [Value.oneCell']) (by unfold maxLen;omega) (by omega) (by simp;omega) ?_);intro v' w3 T D ab;have bl:Hid (w3.ownsRow (w.heap.size+1) 65 2 v' (F (k+1)).1.reverse.length (cells (F (k+1)).1.reverse)):=hT (by rw [W.out,mU,cells_one,DC,T3,<-G.out];exact T);have bo:Hid (Below (w.heap.size+1) J w3):=(I.out.alloc ba _).grown D (by simp;omega) (λj e=>HO.out j e);clear T D ab;go_wp2_with fail;go_roundw;case rel=>exact ⟨k+1,by omega,by have:=Z.out;simp;omega,by rw [V.out],bl,bo⟩
    case measure=>have:=Z.out;have:=H.out;simp [CS];omega
  ·obtain ⟨t,B⟩:=eX1 (s+ (k:Int));have hd:decide (t<s+l)= false:=by have:=H.out;simp;omega
   have bf:k= L:=by omega
   rw [<-B];clear B;subst bf;obtain ⟨a',c',rfl⟩:=BD a.out;have E:=hT a.out;clear N O a;go_wp2_with fail;go_ret2;refine ⟨_,rfl,?_,bm.out⟩;rw [HG.out];exact Ph E.out (Nat.le_succ _)
theorem jC {fn:Func} {p u:Tmp} (h:fn.results= #[.cell p 65, .tmp u]) (tmps:Array Value) (w:World) (g:Nat) (x y v:Value) (hp:tmps.getD p undef= zP g) (hu:tmps.getD u undef= v) (a:w.heap[g]?= some (hV #[x,y] 65 (0,0))): (results fn tmps).run prog w= .ok (CE #[.agg #[x,y],v]) w:=by
 have hi:(prog.info? 65).map (·.size)= some (#[x,y]:Array Value).size:=by show _= some 2;kernel_rfl
 rw [results_cell_tmp h,hp,hu];simp [asAddr,run_loadVar_row w g 65 65 #[x,y] (0,0) _ a underlying65 rfl hi,Ty]
theorem ij (w:World) (s l:Int) (W0:World) (h:(w.alloc (zE s l 65)).alloc (zE 0 0 65)= W0): zB w W0/\Bx W0 w.heap.size s l/\Bx W0 (w.heap.size+1) 0 0/\W0.heap.size= w.heap.size+2:=nW w s l 0 0 W0 h
theorem Pk (s l m:Int) (u:zX) (n:Nat) (k:n= u.length) (d:n<=4611686018427387904) (p:Option Addr) (c:Nat) (w:World) (hu:bd w p u) (h:¬(aU s l u= true/\1<=m)): zF 61 #[zM s l,zI m, .slice p n c] w λe w'=>e= zV (zM 0 0) (zI 1)/\zB w w':=by obtain ⟨r,g⟩:=eX2 ((w.alloc (zE s l 65)).alloc (zE 0 0 65));obtain ⟨o,j,q,y⟩:=ij w s l r g;have x:=hT o;have t:=hT q;have c0:=j.c0;have c1:=j.c1;have b:=hu.next o;cases ho:aU s l u with
 | false => have R:=hT (BC s l u n k d p c r b ho);clear o j q hu k h b ho;go_enter func61,ntmps61;go_wp2_with fail;clear g;refine zg R.out λw1 f=>?_;have i:=zT x f;have a:=hT (t.out.next f);have g0:=a.out.c0;have g1:=a.out.c1;obtain ⟨f0,f1⟩:=a.out.frozen;clear f c0 c1;go_wp2_with fail;refine bodyPost_ret (jC (p:=6) (u:=7) rfl _ _ (w.heap.size+1) _ _ _ rfl rfl (fX a.out _ _)) rfl ⟨rfl,?_⟩;exact fY i.out (by omega) _ _
 | true =>
 have z:decide (m<1):=by
  simp;by_cases c:1<=m;· exact absurd ⟨ho,c⟩ h
  ·omega
 have R:=hT (vi s l u n k d p c r b ho);clear o j q hu k h b ho;go_enter func61,ntmps61;go_wp2_with fail;clear g;refine R.out.mono ?_;rintro e w1 ⟨v,rfl,_,f⟩;have i:=zT x f;have a:=hT (t.out.next f);have g0:=a.out.c0;have g1:=a.out.c1;obtain ⟨f0,f1⟩:=a.out.frozen;clear f c0 c1;go_wp2_with fail;refine bodyPost_ret (jC (p:=6) (u:=7) rfl _ _ (w.heap.size+1) _ _ _ rfl rfl (fX a.out _ _)) rfl ⟨rfl,?_⟩;exact fY i.out (by omega) _ _
theorem Pn (hk:k<gs.length) (h:∀j (a:j<gs.length),j<k->¬m<=gs[j].2) (b:m<=gs[k].2):room m gs= some gs[k]:=by
 refine Bl (pre:=gs.take k) ?_ (λy hy=>?_) b;· rw [<-TD hk];exact List.take_prefix _ _
 ·obtain ⟨j,a,e⟩:=Ug hy;rw [List.length_take]at a;rw [List.getElem_take]at e;rw [<-e];exact h j (by omega) (by omega)
theorem Po (hk:gs.length<=k) (h:∀j (a:j<gs.length),j<k->¬m<=gs[j].2):room m gs= none:= u_ λx hx=>by obtain ⟨j,a,e⟩:=Ug hx;rw [<-e];exact h j a (by omega)
theorem Pp (s l m:Int) (u:zX) (n:Nat) (hn:n= u.length) (A:n<=4611686018427387904) (p:Option Addr) (c:Nat) (w:World) (hu:bd w p u) (h:aU s l u) (h1:1<=m): zF 61 #[zM s l,zI m, .slice p n c] w λe w'=>e= zV (zM (cJ s l m u) (cK s l m u)) (zI (dA s l m u))/\zB w w':=by
 obtain ⟨W0,C⟩:=eX2 ((w.alloc (zE s l 65)).alloc (zE 0 0 65));obtain ⟨T,r,hg,K⟩:=ij w s l W0 C;have HB:=hT T;have HG:=hT hg;have c0:=r.c0;have c1:=r.c1;have R:=hT (vi s l u n hn A p c W0 (hu.next T) h);have y:=iO.1 h;obtain ⟨_,_,_,h4⟩:=fo.1 y.1;have M:=Bg s l u;obtain ⟨N,S⟩:=eX1 ((bF s l u).length);have ad:N<=1048576:=by omega
 have E:=hT (λhr=>oS (u:=u) ⟨h,h1⟩ hr);have D:=hT (λx hr=>oT (u:=u) ⟨h,h1⟩ (x:=x) hr);obtain ⟨gs,B⟩:=eX1 (bF s l u);rw [<-B]at R E D S;have X:=hT S;have d1:decide (m<1)= false:=by simp;omega
 clear T r hg hu hn h K y h4 M B S h1;go_enter func61,ntmps61;go_wp2_with fail;clear C;refine R.out.mono ?_;rintro e w1 ⟨v,rfl,o,Q⟩;obtain ⟨q,d,rfl,g⟩:=bd.own o;have F:=zT HB Q;have f:=hT (HG.out.next Q);have g0:=f.out.c0;have g1:=f.out.c1;obtain ⟨f0,f1⟩:=f.out.frozen;have HR:=hT g;rw [<-X.out];clear Q c0 c1 o g;go_wp2_with fail;go_loopw [10] (λi wr=>∃k:Nat,k<=N/\i= zI k/\wr= w1/\Hid (∀j (hj:j<gs.length),j<k->¬m<=gs[j].2)) (λi _=>N - (CS i).toNat);case atStart=>exact ⟨0,yb _,rfl,rfl,hT (λj _ h=>absurd h (by omega))⟩
 case round=>
  obtain ⟨k,hk,rfl,rfl,t⟩:=hrel;by_cases L:k<N;·
   have a:k<gs.length:=by rw [<-X.out];exact L
   have z:gs≠ []:=by intro e;rw [e]at a;simp at a
   obtain ⟨b,off,rfl,P,hc⟩:=HR.out z;obtain ⟨r0,Z⟩:=hc k a;obtain ⟨⟨Y,G⟩,r⟩:=eX1 (gs[k]);rw [<-r]at r0 Z;dsimp only at r0 Z;have U:Hid (∀h:k<gs.length,gs[k]= (Y,G)):=λ_=>r.symm;have HK:=hT a;have hd:decide ((k:Int) < (N:Int)):=by simp;omega
   have O:decide (k<N):=by simp;omega
   have ab:(k:Int) < (N:Int):=by omega
   clear r a z hc P;cases d2:decide (m<=G) with
    | true =>
    have V:=hT (D.out (Y,G) (by rw [<-U.out HK.out];exact Pn HK.out t.out (by rw [U.out];simpa using d2)));go_wp2_with fail;refine bodyPost_ret (jC (p:=6) (u:=7) rfl _ _ (w.heap.size+1) _ _ _ rfl rfl (fX f.out _ _)) rfl ⟨?_,?_⟩;· obtain ⟨J,I,H⟩:=V.out;rw [J,I,H];rfl
    ·exact fY F.out (by omega) _ _
    | false =>
    have W:Hid (∀j (hj:j<gs.length),j<k+1->¬m<=gs[j].2):=hT λj h hj=>by
     by_cases e:j= k;· subst e;rw [U.out];simpa using d2
     ·exact t.out j h (by omega)
    go_wp2_with fail;go_roundw;case rel=>exact ⟨k+1,by omega,by go_num,by trivial,W⟩
    case measure=>simp [CS];omega
  ·have hd:decide ((k:Int) < (N:Int))= false:=by simp;omega
   have O:decide (k<N)= false:=by simp;omega
   have V:=hT (E.out (Po (by have:=X.out;omega) t.out));go_wp2_with fail;refine bodyPost_ret (jC (p:=6) (u:=7) rfl _ _ (w.heap.size+1) _ _ _ rfl rfl (fX f.out _ _)) rfl ⟨?_,?_⟩;· obtain ⟨J,I,H⟩:=V.out;rw [J,I,H];rfl
   ·exact fY F.out (by omega) _ _
theorem Pq (s l:Int) (u:zX) (n:Nat) (e:n= u.length) (a:n<=4611686018427387904) (p:Option Addr) (c:Nat) (w:World) (hu:bd w p u) (h:aU s l u= false): zF 80 #[zM s l, .slice p n c] w (zJ (zI 0) w):=by have f:=hT (b_ w (zE s l 65));have b:=Bx.new w s l;have c0:=b.c0;have c1:=b.c1;have R:=hT (BC s l u n e a p c _ (hu.next f.out) h);clear b h hu e;go_enter func80,ntmps80;go_wp2_with fail;refine zg R.out λw1 hb=>?_;have d:=zT f hb;clear hb c0 c1;go_wp2_with fail;refine wp_loop_rounds 1 ?_;rw [rounds_succ];go_wp2_with fail;go_ret;exact ⟨rfl,d.out⟩
theorem Ps (hk:k<gs.length):di (gs.take (k+1))= di (gs.take k) +gs[k].2:=by rw [TD hk,uN];simp [di]
theorem Pt (s l:Int) (u:zX) (n:Nat) (K:n= u.length) (x:n<=4611686018427387904) (p:Option Addr) (c:Nat) (w:World) (hu:bd w p u) (h:aU s l u): zF 80 #[zM s l, .slice p n c] w (zJ (zI (free s l u)) w):=by
 have O:=hT (b_ w (zE s l 65));have j:=Bx.new w s l;have c0:=j.c0;have c1:=j.c1;have R:=hT (vi s l u n K x p c _ (hu.next O.out) h);have m:=iO.1 h;obtain ⟨_,_,U,T⟩:=fo.1 m.1;have D:=Bg s l u;have z:=Bi s l u m.1;obtain ⟨N,F⟩:=eX1 ((bF s l u).length);have S:N<=1048576:=by omega
 obtain ⟨gs,o⟩:=eX1 (bF s l u);have X:=hT (show lg.wrap (di gs)= free s l u by rw [o];exact rr _ (by unfold free at z;omega));rw [<-o]at R F;have G:=hT F;clear j h hu K m U T D o F z;go_enter func80,ntmps80;go_wp2_with fail;refine R.out.mono ?_;rintro e w1 ⟨v,rfl,g,M⟩;obtain ⟨q,d,rfl,f⟩:=bd.own g;have H:=zT O M;have W:=hT f;rw [<-G.out];clear M c0 c1 g f;go_wp2_with fail;go_loopw [7,8] (λv i wr=>∃k:Nat,k<=N/\i= zI k/\wr= w1/\v= zI (lg.wrap (di (gs.take k)))) (λ_ i _=>N - (CS i).toNat);case atStart=>exact ⟨0,yb _,rfl,rfl,rfl⟩
 case round=>
  obtain ⟨k,hk,rfl,rfl,rfl⟩:=hrel;by_cases C:k<N;·
   have a:k<gs.length:=by rw [<-G.out];exact C
   have r:gs≠ []:=by intro e;rw [e]at a;simp at a
   obtain ⟨b,off,rfl,E,L⟩:=W.out r;obtain ⟨J,I⟩:=L k a;obtain ⟨⟨Y,P⟩,j⟩:=eX1 (gs[k]);rw [<-j]at J I;dsimp only at J I;obtain ⟨t,B⟩:=eX1 (lg.wrap (di (gs.take k)));obtain ⟨t2,A⟩:=eX2 (lg.wrap (t+P));have V:=hT (show t2= lg.wrap (di (gs.take (k+1))) by rw [Ps a,<-j,<-A,B,Bh]);rw [<-B];have Q:(k:Int) < (N:Int):=by omega
   clear j a r L E B;go_wp2_with fail;go_roundw;case rel=>exact ⟨k+1,by omega,by go_num,by trivial,by rw [V.out]⟩
   case measure=>simp [CS];omega
  ·have y:gs.take k= gs:=List.take_of_length_le (by have:=G.out;omega);rw [y,X.out];clear y;go_wp2_with fail;go_ret;exact ⟨rfl,H.out⟩
theorem Pu (s l m:Int) {u:zX} {n:Nat} (hi:In u n) (p:Option Addr) (c:Nat) (w:World) (hu:bd w p u): zF 61 #[zM s l,zI m, .slice p n c] w λe w'=>e= zV (zM (cJ s l m u) (cK s l m u)) (zI (dA s l m u))/\zB w w':=by
 have a:n<=4611686018427387904:=by have:=hi.bytes;omega
 by_cases h:aU s l u= true/\1<=m;· exact Pp s l m u n hi.size a p c w hu h.1 h.2
 ·obtain ⟨f,d,b⟩:=uZ (l:=l) h;rw [f,d,b];exact Pk s l m u n hi.size a p c w hu h
theorem Pv (s l:Int) {u:zX} {n:Nat} (hi:In u n) (p:Option Addr) (c:Nat) (w:World) (hu:bd w p u): zF 80 #[zM s l, .slice p n c] w (zJ (zI (jr s l u)) w):=by
 have a:n<=4611686018427387904:=by have:=hi.bytes;omega
 unfold jr;cases h:aU s l u with
  | false=>exact Pq s l u n hi.size a p c w hu h
  | true=>exact Pt s l u n hi.size a p c w hu h
end Xm
end
end Go.Proofs.YtchihokmgmchcaaGreat
