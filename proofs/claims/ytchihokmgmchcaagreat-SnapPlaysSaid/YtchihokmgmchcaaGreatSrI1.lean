/- I1, of the proof -/
import Derived.Test.YtchihokmgmchcaaGreatSrE1
import Derived.Test.YtchihokmgmchcaaGreatSrF1
import Derived.Test.YtchihokmgmchcaaGreatSrH3
import Derived.Test.YtchihokmgmchcaaGreatSq0K
import Derived.Shelf.Slices.In.CompactI
set_option linter.unusedVariables false
set_option maxRecDepth 100000
set_option maxHeartbeats 4000000
namespace Go.Proofs.YtchihokmgmchcaaGreat
open Go.Proofs.Tryz
open Nat renaming add_mul->TV,le_refl->nm,le_trans->A6,lt_irrefl->TL,lt_of_lt_of_le->ti,mul_le_mul_right->UH,mul_zero->TW,sub_self->TK,zero_le->yb
open List renaming all_eq_true->TX,append_assoc->NR,append_toArray->U8,cons_append->TN,drop_append->VR,drop_append_of_le_length->Ur,drop_eq_getElem_cons->UM,drop_of_length_le->Ut,drop_zero->TA,eq_nil_of_length_eq_zero->VS,getD_eq_getElem?_getD->FU,getElem?_cons_zero->WE,getElem?_eq_getElem->C1,getElem?_eq_some_iff->C2,getElem?_map->RI,getElem?_of_mem->TF,getElem?_replicate->TR,getElem?_set->P4,getElem?_zip_eq_some->XU,getElem_mem->SR,length_append->DC,length_cons->Tl,length_drop->IV,length_map->PN,length_nil->Un,length_pos_iff->UO,length_replicate->Tq,length_set->TB,length_take->E4,map_append->R0,mem_append->RR,mem_cons_of_mem->SC,mem_cons_self->SD,mem_map->Tp,mem_of_getElem?->P1,mem_range->RP,mem_singleton->H5,mergeSort_perm->Ve,nil_append->TJ,nodup_cons->VB,nodup_iff_pairwise_ne->Yb,pairwise_iff_getElem->Ub,push_toArray->U7,range->MR,replicate->vw,setIfInBounds_toArray->Tz,set_cons_succ->To,set_cons_zero->Tn,size_toArray->Uh,take_append_drop->T8,take_append_of_le_length->Uq,take_of_length_le->OP,take_succ_eq_append_getElem->TD,take_zero->Tj,zip_append->Yj
open Option renaming getD_some->Vf
open Option.some renaming injEq->WG
open Bool renaming and_eq_true->N6,false_and->T5,not_eq_true->U2,true_and->T4
open Go.Obj renaming cells->hV
open Go.Ending renaming returned->nf
open Go.Value renaming pointer->xb,slice->AF,tuple->CE
open Go.Lib renaming compact->TC,compactUpTo->VK,compactUpTo_succ->Ya,hid->hT,intOf->wo,keeps->Vo
open Go.Result renaming andThen->Ty
open Go.Lit renaming int->PO
open Go.IntKind renaming i64->lg
open Go.IntWalk renaming i64_in->rr
open Go.RowKit.Below renaming heap_alloc->PC,heap_setCell->L2,refl->G3
open Int renaming toNat_natCast->GH
open Classical renaming byContradiction->T7
open Go.World renaming block_lt_of_cell?->Vt,cell?_of_block->TZ,cell?_setCell_same->UY,ownsRow->Tt,ownsRow_nil->Ts
open _root_.Array renaming getElem?_eq_some_iff->DN,replicate->Vr,replicate_succ->U5,replicate_zero->U6
open And renaming intro->UC
open Go.Act renaming put->OW
open Go.Fence renaming wide->TT
section
namespace So
structure Pa where
 a:Nat
 n:Nat
 g:Nat
 st:Nat
 ln:Nat
 N:Nat
 gen:Nat
structure Pa.Ok (p:Pa):Prop where
 sup:Um.aj (p.a:Int) (p.n:Int) (p.g:Int)= true
 room:Em.room p.g p.ln= p.N
 pos:0<p.N
 low:17+p.n<=p.st
 high:p.st+p.ln<=p.a
 xn:1<=p.gen
 mn:p.gen<4294967296
def Pa.pg (p:Pa):Nat:=Tb.a_ p.N
def Pa.ar (p:Pa) (i:Nat):Nat:=p.st+1+i
def Pa.data (p:Pa) (i:Nat):Nat:=p.st+1+p.pg+i*p.g
theorem nJ (n:Nat):Em.parts n 13= Tb.a_ n:=by unfold Em.parts Tb.a_;split<;>omega
structure Pa.Fq (p:Pa):Prop where
 g1:1<=p.g
 g2:p.g<=128
 n1:1<=p.n
 a1:p.a<=1048576
 N1:p.N<=1048576
 size:1+p.pg+p.N*p.g<=p.ln
variable{p:Pa}
theorem Pa.Ok.ag (h:p.Ok):p.Fq:=by obtain ⟨h1,i,f,e,d,b⟩:=Um.cT h.sup;have a:=(Em.vM (c:=p.g) (s:=p.ln) (by omega)).1 (by rw [h.room];exact h.pos);rw [h.room]at a;unfold Em.size at a;rw [nJ]at a;have hm:p.N<=p.N*p.g:=Nat.le_mul_of_pos_right _ (by omega);have:=h.high;exact ⟨by omega,by omega,by omega,by omega,by omega,a⟩
theorem Pa.Ok.head (h:p.Ok):Hm.cN p.gen (p.g:Int) (p.N:Int)= true:=by have a:=h.ag;have:=h.pos;have:=h.xn;rw [Hm.mm];obtain ⟨h1,f,e,d,c,b⟩:=a;omega
variable{g i:Nat}
theorem Fs {j i' j':Nat} (k:j<g) (f:j'<g) (h:i*g+j= i'*g+j'):i= i'/\j= j':=by
 have key:∀a b c d:Nat,c<g->d<g->a<b->a*g+c<b*g+d:=λa b c d hc _ hab=>by have:(a+1) *g<=b*g:=UH _ hab;rw [TV]at this;omega
 rcases Nat.lt_trichotomy i i' with e|l|e;· have:=key i i' j j' k f e;omega
 ·subst l;exact ⟨rfl,by omega⟩
 ·have:=key i' i j' j f k e;omega
theorem Pa.sS (p:Pa) {i j i' j':Nat} (b:j<p.g) (a:j'<p.g) (h:p.data i+j= p.data i'+j'):i= i'/\j= j':= Fs b a (by unfold Pa.data at h;omega)
theorem Pa.xo (h:p.Ok) {i j:Nat} (hi:i<p.N) (b:j<p.g):p.data i+j<p.st+p.ln:=by have a:=h.ag.size;have:(i+1) *p.g<=p.N*p.g:=UH _ hi;rw [TV]at this;unfold Pa.data;omega
theorem Pa.mo (h:p.Ok) {i:Nat} (hi:i<p.N):p.data i+p.g<=p.st+p.ln:=by have a:=h.ag.size;have:(i+1) *p.g<=p.N*p.g:=UH _ hi;rw [TV]at this;unfold Pa.data;omega
theorem Pa.sU (p:Pa) {i:Nat} (hi:i<p.pg) (k:Nat):p.ar i<p.data k:=by unfold Pa.ar Pa.data;omega
theorem Pa.nK (p:Pa) (i k:Nat):p.st<p.ar i/\p.st<p.data k:=by unfold Pa.ar Pa.data;omega
theorem Pa.kY (h:p.Ok) {i:Nat} (hi:i<p.pg):p.ar i<p.st+p.ln:=by have a:=h.ag.size;unfold Pa.ar;omega
structure Ms where
 T:List Int
 D:List (List UInt8)
 inv:Bool
def Ms.aK (M:Ms):zN:=if M.inv= true then []else M.T
def piece (d:zL) (j:Nat):zL:=(d.drop (64*j)).take 64
structure Fit (p:Pa) (M:Ms):Prop where
 tok:Tb.Ok M.T
 fD:M.T.length= p.N
 iC:M.D.length= p.N
 off:M.inv= true->∀x∈M.T,x= -1
 size:∀(i:Nat) (k:Int),M.T[i]?= some k->0<=k->(M.D.getD i []).length= 64*p.g
structure fg (p:Pa) (f:Nat->List UInt8) (M:Ms):Prop where
 head:f p.st= Hm.ah p.gen (p.g:Int) (p.N:Int) M.inv
 ar:M.inv= false->∀i,i<p.pg->f (p.ar i)= Pm.ah p.gen (Tb.ar M.T i)
 data:∀(i:Nat) (k:Int),M.T[i]?= some k->0<=k->∀j,j<p.g->f (p.data i+j)= piece (M.D.getD i []) j
structure Live (p:Pa) (st:Dm.St) (M:Ms):Prop where
 ok:Dm.Ok st
 len:st.S.length= p.a
 dE:gu st
 fit:Fit p M
 ed:fg p (Dm.one st) M
 bQ:∀y∈st.P,y.1<p.st\/p.data 0<=y.1
variable{M:Ms}
theorem Fit.lt (h:Fit p M) {i:Nat} {k:Int} (hi:M.T[i]?= some k):i<p.N:=by rw [<-h.fD];exact (C2.1 hi).1
variable{m:zN}
theorem pQ (h:Tb.Ok m) (i:Nat):Pm.dD (Tb.ar m i)= true:=by rw [Pm.ie];refine ⟨Tb.mi _ _,λk hk=>?_⟩;rw [Pm.nG,FU,Tb.sB _ _ _ hk,Vf];cases hx:m[13*i+k]? with
 | none=>simp
 | some x=>exact h.bU x (P1 hx)
def free (m:zN):Nat:=m.length - (Tb.used m).length
theorem Ft {x k:Int} (hi:m[i]?= some x) (a:x<0) (hk:0<=k):(Tb.used (m.set i k)).length= (Tb.used m).length+1:=by induction m generalizing i with
 | nil=>simp at hi
 | cons y m ih => cases i with
 | zero => simp only [WE,WG]at hi;subst hi;simp [Tb.used,hk,show¬(0<=y) by omega]
 | succ i => simp only [List.getElem?_cons_succ]at hi;have:=ih hi;simp only [Tb.used,To,List.filter_cons]at this⊢;split<;>simp [this]
def bA:zN->List (Int×List UInt8)->List Int
 | m, []=>m
 | m,c :: l=>bA (m.set ((Tb.bn m).getD 0) c.1) l
def ak:zN->List (Int×List UInt8)->List Nat
 | _, []=> []
 | m,c :: l=>(Tb.bn m).getD 0 :: ak (m.set ((Tb.bn m).getD 0) c.1) l
theorem Fu (m:zN) (l:zY) (c:Int×List UInt8):bA m (l ++ [c])= (bA m l).set ((Tb.bn (bA m l)).getD 0) c.1:=by induction l generalizing m with
 | nil=>rfl
 | cons d l ih=>exact ih _
theorem Fv (m:zN) (l:zY) (c:Int×List UInt8):ak m (l ++ [c])= ak m l ++ [(Tb.bn (bA m l)).getD 0]:=by induction l generalizing m with
 | nil=>rfl
 | cons d l ih => show _ :: ak _ (l ++ [c])= (_ :: ak _ l) ++ _;rw [ih];rfl
theorem nL (m:zN) (l:zY):(ak m l).length= l.length:=by induction l generalizing m with
 | nil=>rfl
 | cons d l ih=>show (_ :: ak _ l).length= _;rw [Tl,ih,Tl]
theorem xp (m:zN) (l:zY):(bA m l).length= m.length:=by induction l generalizing m with
 | nil=>rfl
 | cons d l ih=>show (bA _ l).length= _;rw [ih,TB]
structure ee (m:zN) (l:zY):Prop where
 ok:Tb.Ok m
 each:∀c∈l,0<=c.1/\c.1<=2147483646/\c.1∉m
 once:(l.map (·.1)).Nodup
 room:l.length+ (Tb.used m).length<=m.length
variable{c:Int×List UInt8}{l:zY}
theorem ee.bn (h:ee m (c :: l)):∃i x,Tb.bn m= some i/\m[i]?= some x/\x<0/\ee (m.set i c.1) l:=by have f:=h.room;simp only [Tl]at f;cases hg:Tb.bn m with
 | none=>have:=Tb.pC.1 hg;omega
 | some i =>
 obtain ⟨⟨x,b,e⟩,_⟩:=Tb.jw.1 hg;obtain ⟨c0,c1,c2⟩:=h.each c SD;have a:=h.once;rw [List.map_cons,VB]at a;refine ⟨i,x,rfl,b,e,h.ok.set i (by omega) c1 (λ_=>c2),λd hd=>?_,a.2,by rw [Ft b e c0,TB];omega⟩;obtain ⟨d0,d1,d2⟩:=h.each d (SC _ hd);refine ⟨d0,d1,λhm=>?_⟩;rcases List.mem_or_eq_of_mem_set hm with hm|hm;· exact d2 hm
 ·exact a.1 (hm▸List.mem_map_of_mem hd)
theorem ee.app {a b:zY} (h:ee m (a ++ b)):ee (bA m a) b:=by induction a generalizing m with
 | nil=>exact h
 | cons c a ih => obtain ⟨i,x,d,_,_,h1⟩:=h.bn;show ee (bA (m.set ((Tb.bn m).getD 0) c.1) a) b;rw [d];exact ih h1
theorem ee.put (h:ee m (c :: l)):∃i,Tb.bn m= some i/\i<m.length/\Tb.put m c.1= (m.set i c.1,(i:Int),0):=by obtain ⟨i,x,a,_,_,_⟩:=h.bn;obtain ⟨c0,c1,c2⟩:=h.each c SD;exact ⟨i,a,Tb.wB a,Tb.pt ⟨c0,c1⟩ (Tb.ic.2 λ_=>c2) a⟩
structure Fw (m m':zN) (ps:List Nat) (l:zY):Prop where
 ok:Tb.Ok m'
 len:m'.length= m.length
 xq:ps.length= l.length
 nodup:ps.Nodup
 free:∀q∈ps,q<m.length/\∃x,m[q]?= some x/\x<0
 at_:∀(j:Nat) (c:Int×List UInt8),l[j]?= some c->∃i,ps[j]?= some i/\m'[i]?= some c.1
 off:∀i,i∉ps->m'[i]?= m[i]?
theorem added (h:ee m l):Fw m (bA m l) (ak m l) l:=by induction l generalizing m with
 | nil=>exact ⟨h.ok,rfl,rfl,List.nodup_nil,λq a=>(by cases a),λj c hc=>(by simp at hc),λi _=>rfl⟩
 | cons c l ih =>
 obtain ⟨i,x,p,o,s,h1⟩:=h.bn;have c0:=(h.each c SD).1;have A:=ih h1;have u:bA m (c :: l)= bA (m.set i c.1) l:=by show bA (m.set ((Tb.bn m).getD 0) c.1) l= _;rw [p];rfl
 have t:ak m (c :: l)= i :: ak (m.set i c.1) l:=by show _ :: ak (m.set ((Tb.bn m).getD 0) c.1) l= _;rw [p];rfl
 have n:=(C2.1 o).1;have b:(m.set i c.1)[i]?= some c.1:=by rw [P4,if_pos rfl,if_pos n]
 have g:i∉ak (m.set i c.1) l:=λhm=>by obtain ⟨_,y,f,k⟩:=A.free i hm;rw [b]at f;injection f with f;omega
 rw [u,t];refine ⟨A.ok,A.len.trans (TB ..),by rw [Tl,A.xq,Tl],VB.2 ⟨g,A.nodup⟩,λq a=>?_,λj d hd=>?_,λq a=>?_⟩;·
  rcases List.mem_cons.1 a with rfl|a;· exact ⟨n,x,o,s⟩
  ·obtain ⟨r,y,f,k⟩:=A.free q a;rw [TB]at r;refine ⟨r,y,?_,k⟩;rw [P4]at f;rw [if_neg (λe=>by subst e;exact g a)]at f;exact f
 ·cases j with
  | zero => simp only [WE,WG]at hd;subst hd;exact ⟨i,rfl,(A.off i g).trans b⟩
  | succ j => obtain ⟨q,a,hm⟩:=A.at_ j d (by simpa using hd);exact ⟨q,by simpa using a,hm⟩
 ·rw [A.off q (λhm=>a (SC _ hm)),P4,if_neg (λe=>a (by rw [<-e];exact SD))]
def iD (m:zN) (g:Nat) (c:Int×List UInt8):Bool:=decide (0<=c.1/\c.1<=2147483646) && (Tb.find m c.1).isNone && decide (c.2.length= 64*g)
def iE (m:zN) (g:Nat) (l:zY):Bool:=l.all (iD m g) && decide ((l.map (·.1)).Nodup)
def fh (inv:Bool) (m:zN) (g:Nat) (l:zY):Int:=if inv= true then 162 else if iE m g l= true then (if l.length<=free m then 0 else 111) else 1
theorem nM :iD m g c= true↔(0<=c.1/\c.1<=2147483646)/\Tb.find m c.1= none/\c.2.length= 64*g:=by simp [iD,and_assoc]
variable{inv:Bool}
theorem xr (a:Tb.Ok m) (h:fh inv m g l= 0):inv= false/\ee m l/\(∀c∈l,c.2.length= 64*g):=by unfold fh at h;cases inv with
 | true=>simp at h
 | false =>
 rw [if_neg (by decide)]at h;split at h;·
  rename_i hm;split at h;· rename_i b;unfold iE at hm;rw [N6,TX,decide_eq_true_eq]at hm;have hu:=Tb.mf m;unfold free at b;refine ⟨rfl,⟨a,λc hc=>?_,hm.2,by omega⟩,λc hc=>(nM.1 (hm.1 c hc)).2.2⟩;obtain ⟨h1,d,_⟩:=nM.1 (hm.1 c hc);exact ⟨h1.1,h1.2,Tb.ic.1 d h1.1⟩
  ·simp at h
 ·simp at h
def i_:List (List UInt8)->List Nat->List (Int×List UInt8)->List (List UInt8)
 | D,i :: ps,c :: l=>i_ (D.set i c.2) ps l
 | D,_,_=>D
theorem Fx (D:List (List UInt8)) (ps:List Nat) (l:zY):(i_ D ps l).length= D.length:=by induction ps generalizing D l with
 | nil=>cases l<;>rfl
 | cons i ps ih => cases l with
 | nil=>rfl
 | cons c l=>show (i_ _ ps l).length= _;rw [ih,TB]
variable{D:List (List UInt8)}{ps:List Nat}
theorem pR (h:i∉ps):(i_ D ps l).getD i []= D.getD i []:=by induction ps generalizing D l with
 | nil=>cases l<;>rfl
 | cons q ps ih => cases l with
 | nil=>rfl
 | cons c l => show (i_ (D.set q c.2) ps l).getD i []= _;rw [ih (λhm=>h (SC _ hm))];simp only [FU,P4];rw [if_neg (λe=>h (by rw [<-e];exact SD))]
theorem xt (b:ps.Nodup) {j i:Nat} {c:Int×List UInt8} (hp:ps[j]?= some i) (a:l[j]?= some c) (hi:i<D.length):(i_ D ps l).getD i []= c.2:=by induction ps generalizing D l j with
 | nil=>simp at hp
 | cons q ps ih => rw [VB]at b;cases l with
 | nil=>simp at a
 | cons d l => show (i_ (D.set q d.2) ps l).getD i []= _;cases j with
 | zero => simp only [WE,WG]at hp a;subst hp;subst a;rw [pR b.1];simp [FU,hi]
 | succ j=>exact ih b.2 (by simpa using hp) (by simpa using a) (by simpa using hi)
structure Tc (m m':zN) (ps:List Nat) (l:zN):Prop where
 ok:Tb.Ok m'
 len:m'.length= m.length
 xq:ps.length= l.length
 Fy:∀q∈ps,∃k∈l,0<=k/\m[q]?= some k/\m'[q]?= some (-1)
 off:∀i,i∉ps->m'[i]?= m[i]?
 gone:∀k∈l,k∉m'
def pS (ps cs:List Nat):Prop:=∀i,i∈cs↔∃q∈ps,q / 13= i
theorem Fz {m':zN} (h:∀q,q / 13= i->m'[q]?= m[q]?):Tb.ar m' i= Tb.ar m i:=by unfold Tb.ar;refine List.map_congr_left λk hk=>?_;rw [RP]at hk;rw [h (13*i+k) (by omega)]
def cd (p:Pa) (ps:List Nat) (l:zY):List Op:=(ps.zip l).map λx=>Op.wr (p.data x.1) x.2.2
def db (p:Pa) (m:zN) (i:Nat):Op:= .wr (p.ar i) (Pm.ah p.gen (Tb.ar m i))
def aQ (p:Pa) (m:zN) (cs:List Nat):List Op:=cs.map (db p m)
def cU (p:Pa) (inv:Bool):Op:= .wr p.st (Hm.ah p.gen (p.g:Int) (p.N:Int) inv)
def aV (p:Pa) (m:zN) (l:zY) (cs:List Nat):List Op:=(cd p (ak m l) l ++ [.fl]) ++ (aQ p (bA m l) cs ++ [.fl])
def bY (p:Pa):List Op:= [cU p true, .fl]
def cy (p:Pa):List Op:=(aQ p (vw p.N (-1)) (MR p.pg) ++ [cU p false]) ++ [.fl]
variable{x:Nat}{d:zL}
theorem kZ {a b:List Op} (h:Wr (a ++ b) x d):Wr a x d\/Wr b x d:=by
 obtain ⟨k,c,hm,r⟩:=h;rcases RR.1 hm with hm|hm;· exact .inl ⟨k,c,hm,r⟩
 ·exact .inr ⟨k,c,hm,r⟩
theorem k_ {a b:List Op} (h:Wr a x d):Wr (a ++ b) x d:=h.mono λo ho=>RR.2 (.inl ho)
theorem xu {a b:List Op} (h:Wr b x d):Wr (a ++ b) x d:=h.mono λo ho=>RR.2 (.inr ho)
theorem FC :¬Wr [.fl] x d:=by rintro ⟨k,c,hm,_⟩;simp at hm
theorem fF {a:List Op} (h:Wr (a ++ [.fl]) x d):Wr a x d:=(kZ h).elim id λh=>(FC h).elim
variable{cs:List Nat}
theorem kj (h:Wr (aQ p m cs) x d):∃i∈cs,x= p.ar i/\d= Pm.ah p.gen (Tb.ar m i):=by
 obtain ⟨k,c,hm,h1,f,e⟩:=h;obtain ⟨i,hi,b⟩:=Tp.1 hm;unfold db at b;injection b with e1 e2;subst e1;subst e2;rw [Pm.bD]at f;have a:x= p.ar i:=by omega
 refine ⟨i,hi,a,?_⟩;rw [e,a,TK,TW,TA,OP (by rw [Pm.bD];exact nm _)]
theorem xv (h:i∈cs):Wr (aQ p m cs) (p.ar i) (Pm.ah p.gen (Tb.ar m i)):= ⟨p.ar i,_,Tp.2 ⟨i,h,rfl⟩,nm _,by rw [Pm.bD];omega,by rw [TK,TW,TA,OP (by rw [Pm.bD];exact nm _)]⟩
theorem xw {x:Nat×(Int×List UInt8)} (h:x∈ps.zip l):∃j:Nat,ps[j]?= some x.1/\l[j]?= some x.2:=by obtain ⟨j,a⟩:=TF h;rw [XU]at a;exact ⟨j,a.1,a.2⟩
theorem FD {j:Nat} (h1:ps[j]?= some i) (h2:l[j]?= some c):(i,c)∈ps.zip l:= P1 (XU.2 ⟨h1,h2⟩)
theorem nN (f:∀c∈l,c.2.length= 64*p.g) {x:Nat} {d:zL} (h:Wr (cd p ps l) x d): ∃(j i:Nat) (c:Int×List UInt8) (k:Nat),ps[j]?= some i/\l[j]?= some c/\k<p.g/\x= p.data i+k/\d= piece c.2 k:=by obtain ⟨k,c,hm,h1,o,n⟩:=h;obtain ⟨y,e,m⟩:=Tp.1 hm;injection m with e1 e2;subst e1;subst e2;obtain ⟨j,b,a⟩:=xw e;have:=f y.2 (P1 a);rw [this]at o;exact ⟨j,y.1,y.2,x - p.data y.1,b,a,by omega,by omega,n⟩
theorem FG (b:∀c∈l,c.2.length= 64*p.g) {j i k:Nat} {c:Int×List UInt8} (h1:ps[j]?= some i) (a:l[j]?= some c) (hk:k<p.g): Wr (cd p ps l) (p.data i+k) (piece c.2 k):=by have:=b c (P1 a);exact ⟨p.data i,c.2,Tp.2 ⟨(i,c),FD h1 a,rfl⟩,by omega,by omega,by rw [Nat.add_sub_cancel_left];rfl⟩
theorem nO {b:Bool} (h:Wr [cU p b] x d):x= p.st/\d= Hm.ah p.gen (p.g:Int) (p.N:Int) b:=by
 obtain ⟨k,c,hm,h1,f,e⟩:=h;rw [H5]at hm;unfold cU at hm;injection hm with e1 e2;subst e1;subst e2;rw [Hm.bD]at f;have a:x= p.st:=by omega
 refine ⟨a,?_⟩;rw [e,a,TK,TW,TA,OP (by rw [Hm.bD];exact nm _)]
theorem xy (p:Pa) (b:Bool):Wr [cU p b] p.st (Hm.ah p.gen (p.g:Int) (p.N:Int) b):= ⟨p.st,_,H5.2 rfl,nm _,by rw [Hm.bD];omega,by rw [TK,TW,TA,OP (by rw [Hm.bD];exact nm _)]⟩
theorem xz (f:Nat->List UInt8) (a b:List Op):eH f (a ++ b)= eH (eH f a) b:=by induction a generalizing f with
 | nil=>rfl
 | cons o a ih=>cases o<;>exact ih _
theorem xA (h:p.Ok) {m:zN} {cs:List Nat} (c:∀i∈cs,i<p.pg):∀o∈aQ p m cs,Good p.a o:=by intro o b;obtain ⟨i,hi,rfl⟩:=Tp.1 b;have h1:=Pa.kY h (c i hi);have d:=h.high;show _ % 64= 0/\_;rw [Pm.bD];omega
theorem FH (h:p.Ok) {ps:List Nat} {l:zY} (i:∀c∈l,c.2.length= 64*p.g) (hp:∀q∈ps,q<p.N):∀o∈cd p ps l,Good p.a o:=by intro o f;obtain ⟨y,e,rfl⟩:=Tp.1 f;obtain ⟨j,d,b⟩:=xw e;have h1:=Pa.mo h (hp y.1 (P1 d));have m:=h.high;have k:=i y.2 (P1 b);show _ % 64= 0/\_;rw [k];omega
theorem xB (h:p.Ok) (b:Bool):Good p.a (cU p b):=by have d:=h.high;have c:=h.ag.size;show _ % 64= 0/\_;rw [Hm.bD];omega
variable{n:Nat}
theorem nP {a:List Op} (h:∀o∈a,Good n o):∀o∈a ++ [.fl],Good n o:=by
 intro o b;rcases RR.1 b with b|b;· exact h o b
 ·rw [H5.1 b];trivial
theorem sV {a b:List Op} (h:∀o∈a,Good n o) (k:∀o∈b,Good n o):∀o∈a ++ b,Good n o:=λo ho=>(RR.1 ho).elim (h o) (k o)
variable{st:Dm.St}
theorem Live.next {M':Ms} (h:Live p st M) (ops:List Op) (d:∀o∈ops,Good p.a o) (e:Fit p M') (c:fg p (eH (Dm.one st) ops) M') (hp:∀y∈(aa st ops).1.P,y.1<p.st\/p.data 0<=y.1): (aa st ops).2= 0/\Live p (aa st ops).1 M':=by have b:=kf h.ok h.dE (ops:=ops) (λo ho=>by rw [h.len];exact d o ho);have hk:=gL h.ok ops;refine ⟨b.1,⟨hk.1,hk.2.trans h.len,b.2,e,?_,hp⟩⟩;have:=funext (lW h.ok b.1);rw [this];exact c
structure sW (p:Pa) (f:Nat->List UInt8) (M M':Ms) (cs:List Nat):Prop where
 head:f p.st= Hm.ah p.gen (p.g:Int) (p.N:Int) false
 ar:∀i,i<p.pg->f (p.ar i)= Pm.ah p.gen (Tb.ar M.T i)
 fW:∀(i:Nat) (k:Int),M.T[i]?= some k->0<=k->∀j,j<p.g->f (p.data i+j)= piece (M.D.getD i []) j
 new:∀(i:Nat) (k:Int),M'.T[i]?= some k->0<=k->∀j,j<p.g->f (p.data i+j)= piece (M'.D.getD i []) j
 same:∀i,i∉cs->Tb.ar M'.T i= Tb.ar M.T i
 less:∀i∈cs,i<p.pg
 Fy:Fit p M
 fit:Fit p M'
 inv:M'.inv= false
variable{f:Nat→List UInt8}
theorem sW.ed {M':Ms} (h:sW p f M M' cs):fg p (eH f (aQ p M'.T cs ++ [.fl])) M':=by
 refine ⟨?_,λ_ i hi=>?_,λi k hi h0 j hj=>?_⟩;· rw [fR _ (λd hd=>?_),h.head,h.inv];obtain ⟨i,_,c,_⟩:=kj (fF hd);have:=(p.nK i 0).1;omega
 ·by_cases e:i∈cs;·
   refine iW _ (k_ (xv e)) λd hd=>?_;obtain ⟨b,_,c,hd⟩:=kj (fF hd);have:i= b:=by unfold Pa.ar at c;omega
   rw [hd,this]
  ·rw [fR _ (λd hd=>?_),h.ar i hi,h.same i e];obtain ⟨b,a,c,_⟩:=kj (fF hd);have:i= b:=by unfold Pa.ar at c;omega
   exact e (this▸a)
 ·rw [fR _ (λd hd=>?_),h.new i k hi h0 j hj];obtain ⟨b,a,c,_⟩:=kj (fF hd);have:=p.sU (h.less b a) i;omega
structure pT (p:Pa) (f:Nat->List UInt8) (M M':Ms) (T:zN):Prop where
 head:f p.st= Hm.ah p.gen (p.g:Int) (p.N:Int) false
 len:T.length= p.N
 ok:Tb.Ok T
 ar:∀i,i<p.pg->f (p.ar i)= Pm.ah p.gen (Tb.ar T i)
 data:∀(i:Nat) (k:Int),T[i]?= some k->0<=k->∀j,j<p.g->(M.T[i]?= some k/\f (p.data i+j)= piece (M.D.getD i []) j)\/(M'.T[i]?= some k/\f (p.data i+j)= piece (M'.D.getD i []) j)
 keep:∀k∈M.T,0<=k->(M'.inv= false->k∈M'.T)->k∈T
def Outcome (p:Pa) (f:Nat->List UInt8) (M M':Ms):Prop:=(M'.inv= true/\f p.st= Hm.ah p.gen (p.g:Int) (p.N:Int) true)\/(M.inv= false/\∃T,pT p f M M' T)
theorem pT.fW (M':Ms) (h:fg p f M) (a:Fit p M) (hi:M.inv= false):pT p f M M' M.T:= ⟨by rw [h.head,hi],a.fD,a.tok,h.ar hi,λi k hk h0 j hj=> .inl ⟨hk,h.data i k hk h0 j hj⟩,λk hk _ _=>hk⟩
theorem Outcome.same {M':Ms} (h:fg p f M) (a:Fit p M) (hi:M.inv= true->M'.inv):Outcome p f M M':=by cases hv:M.inv with
 | true=>exact .inl ⟨hi hv,by rw [h.head,hv]⟩
 | false=>exact .inr ⟨hv,M.T,pT.fW M' h a hv⟩
def Ms.du (M:Ms) (l:zY):Ms:=⟨bA M.T l,i_ M.D (ak M.T l) l,M.inv⟩
theorem FJ (b:Fit p M) {l:zY} (h:ee M.T l) (f:∀c∈l,c.2.length= 64*p.g) (hi:M.inv= false):Fit p (M.du l):=by
 have A:=added h;refine ⟨A.ok,A.len.trans b.fD,(Fx _ _ _).trans b.iC,λhv=>?_,λi k hk h0=>?_⟩;· have:M.inv= true:=hv;rw [hi]at this;cases this
 ·show ((i_ M.D (ak M.T l) l).getD i []).length= _;have hk:(bA M.T l)[i]?= some k:=hk;by_cases hp:i∈ak M.T l;·
   obtain ⟨j,e⟩:=TF hp;have a:j<l.length:=by rw [<-nL M.T l];exact (C2.1 e).1
   have d:i<M.D.length:=by rw [b.iC,<-b.fD];exact (A.free i hp).1
   rw [xt A.nodup e (C1 a) d];exact f _ (SR a)
  ·rw [pR hp];rw [A.off i hp]at hk;exact b.size i k hk h0
theorem FK (hp:p.Ok) {f:Nat->List UInt8} {M:Ms} (o:Fit p M) (v:fg p f M) {l:zY} (C:ee M.T l) (h:∀c∈l,c.2.length= 64*p.g) (hi:M.inv= false) {cs:List Nat} (B:pS (ak M.T l) cs): sW p (eH f (cd p (ak M.T l) l ++ [.fl])) M (M.du l) cs:=by
 have A:=added C;have m:∀q∈ak M.T l,q<p.N:=λq a=>by rw [<-o.fD];exact (A.free q a).1
 have new:∀(i:Nat) (k:Int),(bA M.T l)[i]?= some k->0<=k->∀j,j<p.g->eH f (cd p (ak M.T l) l ++ [.fl]) (p.data i+j)= piece ((i_ M.D (ak M.T l) l).getD i []) j:=λi k hk h0 j hj=>by
  by_cases a:i∈ak M.T l;·
   obtain ⟨q,b⟩:=TF a;have e:q<l.length:=by rw [<-nL M.T l];exact (C2.1 b).1
   have w:i<M.D.length:=by rw [o.iC];exact m i a
   rw [xt A.nodup b (C1 e) w];refine iW _ (k_ (FG h b (C1 e) hj)) λd hd=>?_;obtain ⟨E,t,c2,s,h1,r,y,n,H⟩:=nN h (fF hd);obtain ⟨z,J⟩:=p.sS hj y n;subst z;subst J;have I:=(List.getElem?_inj (C2.1 b).1 A.nodup).1 (b.trans h1.symm);subst I;rw [C1 e]at r;injection r with r;rw [H,r]
  ·rw [pR a];rw [A.off i a]at hk;rw [fR _ (λd hd=>?_),v.data i k hk h0 j hj];obtain ⟨E,t,c2,s,h1,_,y,n,_⟩:=nN h (fF hd);obtain ⟨z,_⟩:=p.sS hj y n;exact a (z▸P1 h1)
 refine ⟨?_,λi hi2=>?_,λi k hk h0 j hj=>?_,new,λi hi2=>?_,λi hi2=>?_,o,FJ o C h hi,hi⟩;· rw [fR _ (λd hd=>?_),v.head,hi];obtain ⟨_,t,_,s,_,_,_,n,_⟩:=nN h (fF hd);have:=(p.nK 0 t).2;omega
 ·rw [fR _ (λd hd=>?_),v.ar hi i hi2];obtain ⟨_,F,_,s,_,_,_,n,_⟩:=nN h (fF hd);have:=p.sU hi2 F;omega
 ·have a:i∉ak M.T l:=λhm=>by obtain ⟨_,x,u,G⟩:=A.free i hm;rw [hk]at u;injection u with u;omega
  have:=new i k ((A.off i a).trans hk) h0 j hj;rw [pR a]at this;exact this
 ·exact Fz λq a=>A.off q λhm=>hi2 ((B i).2 ⟨q,hm,a⟩)
 ·obtain ⟨q,a,rfl⟩:=(B i).1 hi2;have:=m q a;unfold Pa.pg Tb.a_;omega
theorem FO (hp:p.Ok) {st:Dm.St} {M:Ms} (h:Live p st M) {l:zY} (i:ee M.T l) (d:∀c∈l,c.2.length= 64*p.g) (hi:M.inv= false) {cs:List Nat} (n:pS (ak M.T l) cs): (aa st (aV p M.T l cs)).2= 0/\Live p (aa st (aV p M.T l cs)).1 (M.du l)/\(aa st (aV p M.T l cs)).1.P= []:=by
 have A:=added i;have t:=FK hp h.fit h.ed i d hi n;have b:∀q∈ak M.T l,q<p.N:=λq hq=>by rw [<-h.fit.fD];exact (A.free q hq).1
 have f:∀o∈aV p M.T l cs,Good p.a o:=sV (nP (FH hp d b)) (nP (xA hp t.less));have k:=(kf h.ok h.dE (ops:=aV p M.T l cs) (λo ho=>by rw [h.len];exact f o ho)).1;have j:(aa st (aV p M.T l cs)).1.P= []:=by
  have e:aV p M.T l cs= (cd p (ak M.T l) l ++ [.fl] ++ aQ p (bA M.T l) cs) ++ [.fl]:=by simp [aV]
  rw [e]at k⊢;exact lX k
 have:=h.next (aV p M.T l cs) f t.fit (by rw [aV,xz];exact t.ed) (by rw [j];intro y m;cases m);exact ⟨this.1,this.2,j⟩
def Ms.eh (M:Ms):Ms:=⟨vw M.T.length (-1),M.D,true⟩
theorem FP (a:Fit p M):Fit p M.eh:=by
 refine ⟨Tb.sA _ a.tok.aS,by show (vw _ _).length= _;rw [Tq,a.fD],a.iC,λ_ x hx=>(List.mem_replicate.1 hx).2,λi k hk h0=>?_⟩;have hk:(vw M.T.length (-1:Int))[i]?= some k:=hk;rw [TR]at hk;split at hk;· injection hk with hk;omega
 ·cases hk
theorem FQ (hp:p.Ok) {st:Dm.St} {M:Ms} (h:Live p st M):(aa st (bY p)).2= 0/\Live p (aa st (bY p)).1 M.eh/\(aa st (bY p)).1.P= []:=by
 have c:=nP λo ho=>by rw [H5.1 ho];exact xB hp true
 have g:=(kf h.ok h.dE (ops:=bY p) (λo ho=>by rw [h.len];exact c o ho)).1;have e:(aa st (bY p)).1.P= []:=lX (ops:= [cU p true]) g;have:=h.next (bY p) c (FP h.fit) ⟨?_,λhv=>(by cases hv),λi k hk h0=>?_⟩ (by rw [e];intro y f;cases f);· exact ⟨this.1,this.2,e⟩
 ·exact iW _ (k_ (b:= [Op.fl]) (xy p true)) λd hd=>(nO (fF (a:= [cU p true]) hd)).2
 ·have hk:(vw M.T.length (-1:Int))[i]?= some k:=hk;rw [TR]at hk;split at hk;· injection hk with hk;omega
  ·cases hk
def splice (D d:zL) (k:Nat):zL:=D.take (64*k) ++ d ++ D.drop (64*k+d.length)
variable{k:Nat}
theorem pU {D:zL} (h:64*k+d.length<=D.length):(splice D d k).length= D.length:=by unfold splice;rw [DC,DC,E4,IV];omega
theorem pV {D:zL} {j:Nat} (h:64*k+d.length<=D.length) (hd:d.length % 64= 0):piece (splice D d k) j= if k<=j/\j<k+d.length / 64 then piece d (j - k) else piece D j:=by
 have a:(D.take (64*k)).length= 64*k:=by rw [E4];omega
 unfold piece splice;split;· rename_i b;rw [NR,VR,Ut (by omega),TJ,a,Ur (by omega),Uq (by rw [IV];omega)];congr 2;omega
 ·rename_i b;by_cases h1:j<k;· rw [NR,Ur (by omega),Uq (by rw [IV];omega),List.drop_take,List.take_take];congr 1;omega
  ·rw [VR,Ut (by rw [DC];omega),TJ,DC,a,List.drop_drop];congr 2;omega
def Ms.eJ (M:Ms) (i k:Nat) (d:zL):Ms:=⟨M.T,M.D.set i (splice (M.D.getD i []) d k),M.inv⟩
def cV (p:Pa) (i k:Nat) (d:zL):Op:= .wr (p.data i+k) d
theorem kl (hd:k+d.length / 64<=p.g) {x:Nat} {v:zL} (h:Wr [cV p i k d] x v):∃j,j<p.g/\k<=j/\j<k+d.length / 64/\x= p.data i+j/\v= piece d (j - k):=by obtain ⟨q,c,hm,h1,b,a⟩:=h;rw [H5]at hm;unfold cV at hm;injection hm with e1 e2;subst e1;subst e2;refine ⟨x - p.data i,by omega,by omega,by omega,by omega,?_⟩;rw [a];unfold piece;congr 2;omega
theorem sX (hi:i<M.D.length) (q:Nat):(M.eJ i k d).D.getD q []= if i= q then splice (M.D.getD i []) d k else M.D.getD q []:=by
 show (M.D.set i _).getD q []= _;rw [FU,P4];by_cases e:i= q;· rw [if_pos e,if_pos hi,if_pos e];rfl
 ·rw [if_neg e,if_neg e,<-FU]
theorem FV (a:Fit p M) {i k:Nat} {d:zL} {c:Int} (hi:M.T[i]?= some c) (e:0<=c) (hd:d.length % 64= 0) (hk:k+d.length / 64<=p.g):Fit p (M.eJ i k d):=by
 refine ⟨a.tok,a.fD,by show (M.D.set _ _).length= _;rw [TB,a.iC],a.off,λq x hq hx=>?_⟩;have b:=a.size i c hi e;rw [sX (by rw [a.iC];exact a.lt hi)];split;· rw [pU (by omega),b]
 ·exact a.size q x hq hx
theorem FX (hp:p.Ok) {st:Dm.St} {M:Ms} (h:Live p st M) {i k:Nat} {d:zL} {c:Int} (hi:M.T[i]?= some c) (s:0<=c) (hd:d.length % 64= 0) (hk:k+d.length / 64<=p.g): (aa st [cV p i k d]).2= 0/\Live p (aa st [cV p i k d]).1 (M.eJ i k d):=by
 have u:=h.fit.size i c hi s;have l:=h.fit.lt hi;have t:i<M.D.length:=by rw [h.fit.iC];exact l
 refine h.next [cV p i k d] (λo ho=>?_) (FV h.fit hi s hd hk) ⟨?_,λa q hq=>?_,λq x hq f j hj=>?_⟩ λy n=>?_;· rw [H5.1 ho];have:=Pa.mo hp l;have:=hp.high;exact ⟨hd,by omega⟩
 ·rw [fR _ (λv a=>?_)];· exact h.ed.head
  ·obtain ⟨j,_,_,_,f,_⟩:=kl hk a;have:=(p.nK 0 i).2;omega
 ·rw [fR _ (λv a=>?_)];· exact h.ed.ar a q hq
  ·obtain ⟨j,_,_,_,f,_⟩:=kl hk a;have:=p.sU hq i;omega
 ·rw [sX t];by_cases e:i= q;·
   subst e;rw [if_pos rfl,pV (by omega) hd];split;·
    rename_i r;refine iW _ ⟨p.data i+k,d,H5.2 rfl,by omega,by omega,?_⟩ λv a=>?_;· unfold piece;congr 2;omega
    ·obtain ⟨m,h1,_,_,b,a⟩:=kl hk a;have:j= m:=by omega
     rw [a,this]
   ·rename_i r;rw [fR _ (λv a=>?_)];· exact h.ed.data i x hq f j hj
    ·obtain ⟨m,h1,z,w,b,_⟩:=kl hk a;have:j= m:=by omega
     omega
  ·rw [if_neg e,fR _ (λv a=>?_)];· exact h.ed.data q x hq f j hj
   ·obtain ⟨m,h1,_,_,b,_⟩:=kl hk a;exact e (p.sS hj h1 b).1.symm
 ·rcases sw _ y n with n|hw;· exact h.bQ y n
  ·obtain ⟨j,_,_,_,f,_⟩:=kl hk hw;have:p.data 0<=p.data i:=by unfold Pa.data;omega
   omega
def Ms.new (p:Pa):Ms:=⟨vw p.N (-1),vw p.N [],false⟩
theorem FZ (hp:p.Ok):Fit p (Ms.new p):=by
 refine ⟨Tb.sA _ hp.ag.N1,Tq ..,Tq ..,λhv=>(by cases hv),λi k hk h0=>?_⟩;have hk:(vw p.N (-1:Int))[i]?= some k:=hk;rw [TR]at hk;split at hk;· injection hk with hk;omega
 ·cases hk
def ja (p:Pa) (s:zL):Bool:=decide (Hm.av s= 0) && decide (Hm.aH s= p.gen) && decide (Hm.fT s= p.g) && decide (Hm.fU s= p.N)
def gR (p:Pa) (s:zL):Bool:=decide (Pm.av s= 0) && decide (Pm.aH s= p.gen)
variable{s:zL}
theorem pW :ja p s= true↔Hm.av s= 0/\Hm.aH s= p.gen/\Hm.fT s= p.g/\Hm.fU s= p.N:=by simp [ja,and_assoc]
theorem mq :gR p s= true↔Pm.av s= 0/\Pm.aH s= p.gen:=by simp [gR]
def eK (p:Pa) (f:Nat->List UInt8) (k:Nat):zN:=(MR k).flatMap λi=>Pm.da (f (p.ar i))
theorem sY (p:Pa) (f:Nat->List UInt8) (k:Nat):eK p f (k+1)= eK p f k ++ Pm.da (f (p.ar k)):=by simp [eK,List.range_succ]
def mr (p:Pa) (f:Nat->List UInt8):Bool:=(MR p.pg).all λi=>gR p (f (p.ar i))
def dI (p:Pa) (f:Nat->List UInt8):Int:= if ja p (f p.st)= true then if Hm.d_ (f p.st)= true then 0 else if mr p f= true then if Tb.gM (p.N:Int) (eK p f p.pg)= 0 then 0 else 165 else 165 else 165
def gz (f:Nat->List UInt8) (p:Pa):Bool:=Hm.d_ (f p.st)
def fG (p:Pa) (f:Nat->List UInt8):zN:=if Hm.d_ (f p.st)= true then []else (eK p f p.pg).take p.N
theorem xC (h:p.Ok) (b:Bool):ja p (Hm.ah p.gen (p.g:Int) (p.N:Int) b)= true/\Hm.d_ (Hm.ah p.gen (p.g:Int) (p.N:Int) b)= b:=by obtain ⟨h1,c,e,d,a⟩:=Hm.back p.gen (p.g:Int) (p.N:Int) b h.mn h.head;exact ⟨pW.2 ⟨h1,c,by omega,by omega⟩,a⟩
theorem F5 (h:p.Ok) {f:Nat->List UInt8} (a:f p.st= Hm.ah p.gen (p.g:Int) (p.N:Int) true):dI p f= 0/\gz f p= true/\fG p f= []:=by
 obtain ⟨h1,b⟩:=xC h true;refine ⟨?_,?_,?_⟩;· unfold dI;rw [a,if_pos h1,if_pos b]
 ·unfold gz;rw [a,b]
 ·unfold fG;rw [a,if_pos b]
theorem F6 (h:p.Ok) {f:Nat->List UInt8} {T:zN} (ok:Tb.Ok T) (hp:∀i,i<p.pg->f (p.ar i)= Pm.ah p.gen (Tb.ar T i)):∀k,k<=p.pg->eK p f k= Tb.flat T k:=by intro k;induction k with
 | zero=>intro _;rfl
 | succ k ih => intro hk;rw [sY,Tb.sC,ih (by omega),hp k (by omega),(Pm.back p.gen (Tb.ar T k) h.mn (pQ ok k)).2.2]
theorem F7 (h:p.Ok) {f:Nat->List UInt8} {T:zN} (a:f p.st= Hm.ah p.gen (p.g:Int) (p.N:Int) false) (len:T.length= p.N) (ok:Tb.Ok T) (hp:∀i,i<p.pg->f (p.ar i)= Pm.ah p.gen (Tb.ar T i)): dI p f= 0/\gz f p= false/\fG p f= T:=by
 obtain ⟨h1,b⟩:=xC h false;have c:=F6 h ok hp p.pg (nm _);have e:p.pg= Tb.a_ T.length:=by rw [len];rfl
 refine ⟨?_,?_,?_⟩;·
  unfold dI;rw [a,if_pos h1,b,if_neg (by decide)];have d:mr p f:=by unfold mr;rw [TX];intro i hi;rw [RP]at hi;rw [hp i hi,mq];have:=Pm.back p.gen (Tb.ar T i) h.mn (pQ ok i);exact ⟨this.1,this.2.1⟩
  rw [if_pos d,c,<-len,e,Tb.Er ok,if_pos rfl]
 ·unfold gz;rw [a,b]
 ·unfold fG;rw [a,b,if_neg (by decide),c,<-len,e,Tb.sE]
theorem F8 (h:p.Ok) {f:Nat->List UInt8} {M:Ms} (a:fg p f M) (b:Fit p M):dI p f= 0/\gz f p= M.inv/\fG p f= M.aK:=by cases hi:M.inv with
 | true => have:=F5 h (f:=f) (by rw [a.head,hi]);unfold Ms.aK;rw [hi,if_pos rfl];exact this
 | false => have:=F7 h (f:=f) (by rw [a.head,hi]) b.fD b.tok (a.ar hi);unfold Ms.aK;rw [hi,if_neg (by decide)];exact this
def gS (p:Pa) (f n:Int):Bool:=decide (0<=f) && decide (0<=n) && decide (n<=(p.g:Int) - f)
theorem pX {f n:Int}:gS p f n= true↔0<=f/\0<=n/\n<=(p.g:Int) - f:=by simp [gS,and_assoc]
structure Next (p:Pa) (st:Dm.St) (ops:List Op) (M':Ms):Prop where
 done:(aa st ops).2= 0
 live:Live p (aa st ops).1 M'
theorem Next.none (h:Live p st M):Next p st [] M:=⟨rfl,h⟩
structure Rest (p:Pa) (st:Dm.St) (M:Ms):Prop where
 ok:Dm.Ok st
 none:st.P= []
 fit:Fit p M
 ed:fg p (Dm.one st) M
theorem F9 (a:st.P= []) (keep:List Bool) (x:Nat):Dm.one (Dm.pk st keep) x= Dm.one st x:=by unfold Dm.one Dm.pk;rw [a];rfl
theorem Rest.same {M':Ms} (h:Rest p st M) (keep:List Bool) (hi:M.inv= true->M'.inv):Outcome p (Dm.one (Dm.pk st keep)) M M':=by have e:=funext (F9 h.none keep);rw [e];exact Outcome.same h.ed h.fit hi
open Go.RowKit
structure Bk where
 q:Nat
 d:ae.Ob
 t:Tb.Ob
def Bk.fp (b:Bk) (k:Nat):Prop:=k= b.q\/b.d.fp k\/b.t.fp k
def Bk.cells (b:Bk) (p:Pa) (inv:Bool):Array Value:= #[zI p.a,zI p.n,zI p.g,zP b.d.p,zI p.st,zI p.ln,zU p.gen,zI p.g,zI p.N, .bool inv,zP b.t.p]
structure Sk (w:World) (b:Bk) (p:Pa) (inv:Bool) (st:Dm.St) (m:zN):Prop where
 head:w.heap[b.q]?= some (hV (b.cells p inv) 191 (0,0))
 dk:ae.Dk w b.d st
 tm:Tb.Tm w b.t m
 dt:∀k,b.d.fp k->¬b.t.fp k
 qd:¬b.d.fp b.q
 qt:¬b.t.fp b.q
variable{w:World}{b:Bk}
theorem Sk.lt (h:Sk w b p inv st m) (k:Nat) (hk:b.fp k):k<w.heap.size:=by
 rcases hk with rfl|hk|hk;· exact ae.lt_of_heap h.head
 ·exact h.dk.lt k hk
 ·exact h.tm.lt k hk
variable{w':World}
theorem Sk.same (h:Sk w b p inv st m) (hb:∀k,b.fp k->w'.heap[k]?= w.heap[k]?):Sk w' b p inv st m:= ⟨(hb _ (.inl rfl)).trans h.head,h.dk.same λk hk=>hb k (.inr (.inl hk)),h.tm.same λk hk=>hb k (.inr (.inr hk)),h.dt,h.qd,h.qt⟩
variable{F:Nat→Prop}
theorem Sk.keep (h:Sk w b p inv st m) (hf:ae.Fr F w w') (hd:∀k,b.fp k->¬F k):Sk w' b p inv st m:=h.same λk hk=>hf.block k (h.lt k hk) (hd k hk)
theorem Sk.below (h:Sk w b p inv st m) (hb:zB w w'):Sk w' b p inv st m:=h.same λk hk=>hb.block k (h.lt k hk)
theorem Sk.reads (h:Sk w b p inv st m): w.cell? (zD b.q 0)= some (zI p.a)/\w.cell? (zD b.q 1)= some (zI p.n)/\w.cell? (zD b.q 2)= some (zI p.g)/\ w.cell? (zD b.q 3)= some (zP b.d.p)/\w.cell? (zD b.q 4)= some (zI p.st)/\w.cell? (zD b.q 5)= some (zI p.ln)/\ w.cell? (zD b.q 6)= some (zU p.gen)/\w.cell? (zD b.q 7)= some (zI p.g)/\w.cell? (zD b.q 8)= some (zI p.N)/\ w.cell? (zD b.q 9)= some (.bool inv)/\w.cell? (zD b.q 10)= some (zP b.t.p)/\∀j,w.frozen? (zD b.q j)= false:=by refine ⟨?_,?_,?_,?_,?_,?_,?_,?_,?_,?_,?_,λj=>frozen_of_row _ _ _ _ _ h.head⟩<;>(rw [cell_of_row _ _ _ _ _ _ h.head];rfl)
structure Sp (b b':Bk) (w w':World):Prop where
 fr:ae.Fr b.fp w w'
 fp:∀k,b'.fp k->b.fp k\/w.heap.size<=k
 q:b'.q= b.q
 dp:b'.d.p= b.d.p
 df:∀k,b'.d.fp k->b.d.fp k\/w.heap.size<=k
theorem Sp.refl (b:Bk) (w:World):Sp b b w w:=⟨ae.Fr.refl _ _,λ_ h=> .inl h,rfl,rfl,λ_ h=> .inl h⟩
theorem Sp.ax (h:zB w w'):Sp b b w w':=⟨ae.Fr.ax h,λ_ h=> .inl h,rfl,rfl,λ_ h=> .inl h⟩
theorem Sp.trans {a c:Bk} {u v:World} (h:Sp a b u v) (k:Sp b c v w):Sp a c u w:=by
 refine ⟨h.fr.trans k.fr λi hi hb=>?_,λi hi=>?_,k.q.trans h.q,k.dp.trans h.dp,λi hi=>?_⟩;·
  rcases h.fp i hb with h1|h1;· exact h1
  ·omega
 ·rcases k.fp i hi with h1|h1;· exact h.fp i h1
  ·exact .inr (A6 h.fr.size h1)
 ·rcases k.df i hi with h1|h1;· exact h.df i h1
  ·exact .inr (A6 h.fr.size h1)
theorem Sk.iH {st':Dm.St} (h:Sk w b p inv st m) {o':ae.Ob} (hd:ae.Dk w' o' st') (a:ae.Step b.d o' w w'): Sk w' {b with d:=o'} p inv st' m/\Sp b {b with d:=o'} w w':=by
 have f:=h.lt b.q (.inl rfl);have e:∀k,o'.fp k->k<w.heap.size->b.d.fp k:=λk hk hlt=>(a.fp k hk).elim id λc=>by omega
 refine ⟨⟨?_,hd,h.tm.keep a.fr λk hk hd=>h.dt k hd hk,λk hk ht=>h.dt k (e k hk (h.tm.lt k ht)) ht,λhk=>h.qd (e _ hk f),h.qt⟩,⟨a.fr.mono λk _ hk=> .inr (.inl hk),λk hk=>?_,rfl,a.p,a.fp⟩⟩;· show w'.heap[b.q]?= some (hV #[_,_,_,zP o'.p,_,_,_,_,_,_,_] _ _);rw [a.fr.block b.q f h.qd,h.head,a.p];rfl
 ·rcases hk with rfl|hk|hk;· exact .inl (.inl rfl)
  ·exact (a.fp k hk).imp (λh=> .inr (.inl h)) id
  ·exact .inl (.inr (.inr hk))
theorem Sk.table {m':zN} (h:Sk w b p inv st m) {o':Tb.Ob} (e:Tb.Tm w' o' m') (d:Tb.Step b.t o' w w'): Sk w' {b with t:=o'} p inv st m'/\Sp b {b with t:=o'} w w':=by
 have f:=h.lt b.q (.inl rfl);have a:∀k,o'.fp k->k<w.heap.size->b.t.fp k:=λk hk hlt=>(d.fp k hk).elim id λc=>by omega
 refine ⟨⟨?_,h.dk.keep d.fr λk hk e=>h.dt k hk e,e,λk hk e=>h.dt k hk (a k e (h.dk.lt k hk)),h.qd,λhk=>h.qt (a _ hk f)⟩,⟨d.fr.mono λk _ hk=> .inr (.inr hk),λk hk=>?_,rfl,rfl,λ_ h=> .inl h⟩⟩;· show w'.heap[b.q]?= some (hV #[_,_,_,_,_,_,_,_,_,_,zP o'.p] _ _);rw [d.fr.block b.q f h.qt,h.head,d.p];rfl
 ·rcases hk with rfl|hk|hk;· exact .inl (.inl rfl)
  ·exact .inl (.inr (.inl hk))
  ·exact (d.fp k hk).imp (λh=> .inr (.inr h)) id
def ay (b:Bk) (p:Pa) (inv:Bool) (st:Dm.St) (m:zN) (w w':World):Prop:=∃b',Sk w' b' p inv st m/\Sp b b' w w'
theorem ay.refl (h:Sk w b p inv st m):ay b p inv st m w w:=⟨b,h,Sp.refl _ _⟩
variable{w1 w2:World}
theorem ay.trans {b1:Bk} (h1:Sp b b1 w w1) (h:ay b1 p inv st m w1 w2):ay b p inv st m w w2:=by obtain ⟨b2,hk,a⟩:=h;exact ⟨b2,hk,h1.trans a⟩
theorem ay.below (hb:zB w w1) (h:ay b p inv st m w1 w2):ay b p inv st m w w2:=ay.trans (Sp.ax hb) h
theorem ay.then (h:ay b p inv st m w w1) (a:zB w1 w2):ay b p inv st m w w2:=by obtain ⟨b2,hk,c⟩:=h;exact ⟨b2,hk.below a,c.trans (Sp.ax a)⟩
theorem ay.fr (h:ay b p inv st m w w'):ae.Fr b.fp w w':=by obtain ⟨b2,_,a⟩:=h;exact a.fr
def aB (x:Int):Ending:= .panicked [{v:= .iface 251 (.agg #[zI x]),recovered:=false}]
def aP (x:Int):Ending:=if x= 0 then nf (CE #[]) else aB x
theorem cF:aP 0= nf (CE #[]):=rfl
theorem aX {x:Int} (h:x≠0):aP x= aB x:=by unfold aP;rw [if_neg h]
theorem dv (w:World):zF 168 #[zI 0] w (zQ (CE #[]) w):=by go_enter func168,ntmps168;go_wp2;go_end0;exact ⟨rfl,rfl⟩
theorem dy (x:Int) (h:x≠0) (w:World):zF 168 #[zI x] w λe w'=>e= aB x/\w= w':=by
 have a:(x != 0):=by simpa using h
 unfold aB;go_enter func168,ntmps168;go_wp2;exact ⟨rfl,rfl,rfl⟩
theorem iI (w:World):zF 211 #[.bool true] w (zQ (CE #[]) w):=by go_enter func211,ntmps211;go_wp2;go_end0;exact ⟨rfl,rfl⟩
theorem tw (w:World):zF 211 #[.bool false] w λe w'=>e= aB 165/\w= w':=by unfold aB;go_enter func211,ntmps211;go_wp2;exact ⟨rfl,rfl,rfl⟩
theorem jd (v:Int) (w:World):zF 220 #[zI v,zI 0] w (zQ (zI v) w):=by have NE:=hT (λw1=>dv w1);go_enter func220,ntmps220;go_wp2_with fail;refine zh (NE.out _) ?_;go_wp2;go_ret;exact ⟨rfl,rfl⟩
theorem eL (v:Value) (w:World):zF 174 #[v,zI 0] w λe w'=>e= nf v/\w= w':=by have NE:=hT (λw1=>dv w1);go_enter func174,ntmps174;go_wp2_with fail;refine zh (NE.out _) ?_;go_wp2;go_ret;exact ⟨rfl,rfl⟩
theorem xN (v:Value) (w:World):zF 249 #[v,zI 0] w λe w'=>e= nf v/\w= w':=by have NE:=hT (λw1=>dv w1);go_enter func249,ntmps249;go_wp2_with fail;refine zh (NE.out _) ?_;go_wp2;go_ret;exact ⟨rfl,rfl⟩
theorem nW (w:World) (s l:Int) (W0:World) (h:(w.alloc (zE s l 65)).alloc (zE 0 0 65)= W0): zB w W0/\W0.cell? (zz w 0)= some (zI s)/\W0.cell? (zz w 1)= some (zI l)/\W0.heap[w.heap.size+1]?= some (hV #[zI 0,zI 0] 65 (0,0))/\W0.heap.size= w.heap.size+2:=by
 subst h;have h1:=heap_alloc_new w (zE s l 65);have b:=heap_alloc_new (w.alloc (zE s l 65)) (zE 0 0 65);have c:(w.alloc (zE s l 65)).heap.size= w.heap.size+1:=by simp
 rw [c]at b;have d:Below (w.heap.size+1) (w.alloc (zE s l 65)) ((w.alloc (zE s l 65)).alloc (zE 0 0 65)):=zR.alloc (by simp) _;have a:=(d.block w.heap.size (by omega)).trans h1;exact ⟨(zA).alloc (by simp) _,zW a,zW a,b,by simp⟩
variable{fn:Func}
theorem GF {p:Tmp} (h:fn.results= #[.cell p 65]) (tmps:Array Value) (w:World) (g:Nat) (x y:Value) (hp:tmps.getD p undef= zP g) (b:w.heap[g]?= some (hV #[x,y] 65 (0,0))): (results fn tmps).run prog w= .ok (.agg #[x,y]) w:=by
 have a:tmps[p]?.getD undef= zP g:=by simpa using hp
 have c0:w.cell? (zD g 0)= some x:=zW b;have c1:w.cell? (zD g 1)= some y:=zW b;simp [results,h,a,asAddr,Ty,go_sem,c0,c1]
theorem GG (s l:Int) (w:World):zF 221 #[zM s l,zI 0] w (zJ (zM s l) w):=by have NE:=hT (λw1=>dv w1);obtain ⟨c,b⟩:=eX2 ((w.alloc (zE s l 65)).alloc (zE 0 0 65));obtain ⟨e,k,a1,a,d⟩:=nW w s l c b;have g:=hT e;have f:=hT a;have i:c.cell? (zD (w.heap.size+1) 0)= some (zI 0):=zW a;have b1:c.cell? (zD (w.heap.size+1) 1)= some (zI 0):=zW a;have h:∀j,c.frozen? (zD (w.heap.size+1) j)= false:=λj=>frozen_of_row (j:=j) _ _ _ _ a;clear e a d;go_enter func221,ntmps221;go_wp2_with fail;clear b;refine zh (NE.out _) ?_;go_wp2_with fail;refine bodyPost_ret (GF (p:=4) rfl _ _ (w.heap.size+1) _ _ rfl (fX f.out _ _)) rfl ⟨rfl,?_⟩;exact fY g.out (by omega) _ _
theorem mA (f n s l:Int) (w:World) (g:(PO lg f).wf) (b:0<=l) (a:l<=9223372036854775807):zF 166 #[.int lg f, .int lg n, .agg #[.int lg s, .int lg l]] w (zJ (.bool (decide (0<=f) && decide (0<=n) && decide (n<=l - f))) w):=by
 have hw: -9223372036854775808<=f/\f<=9223372036854775807:=by have d:lg.min= -9223372036854775808:=rfl;have e:lg.max= 9223372036854775807:=rfl;simp only [Lit.wf,N6,decide_eq_true_eq]at g;omega
 clear g;have c:=hT (b_ w (hV #[.int lg s, .int lg l] 65));by_cases h1:0<=f;·
  have i:lg.wrap (l - f)= l - f:=rr _ (by omega);have d1:=decide_eq_true h1;by_cases h:0<=n;· have d3:=decide_eq_true h;rw [d1,d3,T4,T4];clear hw b a;go_enter func166,ntmps166;go_wp2;go_ret;exact ⟨rfl,c.out⟩
  ·have d3:=decide_eq_false h;rw [d1,d3,T4,T5];clear hw b a;go_enter func166,ntmps166;go_wp2;go_ret;exact ⟨rfl,c.out⟩
 ·have d1:=decide_eq_false h1;rw [d1,T5,T5];clear hw b a;go_enter func166,ntmps166;go_wp2;go_ret;exact ⟨rfl,c.out⟩
theorem gU (h:Below w.drew.heap.size w.drew w1):zB w w1:=((G3 _ w).drew).trans h
variable{v:Value}
theorem yz {l:zN} (h:Tb.Ints w v l):Tb.Ints w.drew v l:=ae.bc h λ_ _=>rfl
theorem gV {p:Addr} (h:w'.heap[p.block]?= w.heap[p.block]?):w'.cell? p= w.cell? p:=by unfold World.cell?;rw [h]
variable{q:Nat}
theorem yA (h:q≠g) (x y:Value) (j:Nat):((w.setCell ⟨g,0,none⟩ x).setCell ⟨g,1,none⟩ y).cell? (zD q j)= w.cell? (zD q j):= gV (p:=(zD q j)) ((L2 _ ⟨g,1,none⟩ _ _ h).trans (L2 _ ⟨g,0,none⟩ _ _ h))
theorem Pa.Ok.bH (h:p.Ok):bH (p.st:Int) (p.ln:Int) (17+ (p.n:Int)) ((p.a:Int) - (17+p.n))= true:=by have:=h.low;have:=h.high;rw [xM];omega
theorem Pa.Ok.small (h:p.Ok):(p.st:Int)<=1048576:=by have:=h.high;have:=h.ag.a1;omega
theorem Pa.Ok.qn (h:p.Ok):ko (p.a:Int) (p.n:Int) (p.g:Int) (p.st:Int) (p.ln:Int) (p.N:Int) 0:=λw1=>by
 have h1:=Gy (p.a:Int) (p.n:Int) (p.g:Int) (p.st:Int) p.ln w1 h.sup (by have:=h.small;omega) h.bH;rw [GH,h.room]at h1;have e:Geo.jZ p.N= 0:=by have:=h.pos;unfold Geo.jZ;rw [if_neg (by omega)]
 rw [e]at h1;exact h1
theorem qq (h:p.Ok) {i:Nat} (hi:i<p.pg) (w:World):zF 243 #[zO p.a p.n p.g, zM p.st p.ln,zI i] w λe w'=>e= zV (zI (p.ar i:Int)) (zI 0)/\zB w w':=by
 refine (GA _ _ _ _ _ (i:Int) p.N w h.sup h.qn (by omega) h.ag.N1 ?_ (by omega) h.small).mono ?_;· rw [nJ];unfold Pa.pg at hi;omega
 ·rintro e w' ⟨rfl,b⟩;refine ⟨?_,b⟩;have:((p.ar i:Nat):Int)= (p.st:Int) +1+i:=by unfold Pa.ar;omega
  rw [this]
theorem IX (h:p.Ok) {i:Nat} (hi:p.pg<=i) (w:World):zF 243 #[zO p.a p.n p.g, zM p.st p.ln,zI i] w λe w'=>e= zV (zI 0) (zI 2)/\zB w w':= Gz _ _ _ _ _ (i:Int) p.N w h.sup h.qn (by omega) h.ag.N1 (by rw [nJ];unfold Pa.pg at hi;omega)
theorem yB (h:p.Ok) {i:Nat} (hi:i<p.N) (w:World):zF 215 #[zO p.a p.n p.g, zM p.st p.ln,zI i] w λe w'=>e= zV (zM (p.data i:Int) p.g) (zI 0)/\zB w w':=by
 refine zg (GD _ _ _ _ _ (i:Int) p.N w h.sup h.qn (by omega) h.ag.N1 (by omega) (by omega) h.small) λw' hb=>?_;refine ⟨?_,hb⟩;have:((p.data i:Nat):Int)= (p.st:Int) +1+ (Em.parts p.N 13:Nat) + (i:Int) *p.g:=by rw [nJ];unfold Pa.data Pa.pg;push_cast;omega
 rw [this]
theorem yC (h:p.Ok) (inv:Bool) (w:World):zF 252 #[.agg #[zU p.gen,zI p.g,zI p.N, .bool inv]] w λe w'=>e= zV (.string (Om.B (Hm.ah p.gen (p.g:Int) (p.N:Int) inv))) (zI 0)/\zB w w':=by have h1:=Ha p.gen (p.g:Int) (p.N:Int) inv w h.mn;rw [(Hm.eI inv h.head).1,(Hm.eI inv h.head).2]at h1;exact h1
theorem yD (h:p.Ok) {ls:zN} (b:Pm.dD ls) {v:Value} {w:World} (d:Tb.Ints w v ls):zF 251 #[zU p.gen,v] w λe w'=>e= zV (.string (Om.B (Pm.ah p.gen ls))) (zI 0)/\zB w w':=by have g:=((Pm.ie ls).1 b).1;obtain ⟨a,c,rfl⟩:=ae.ck d;have f:Row w w.heap.size a ls.length (bz ls):=Row.own d (λi hi=>by unfold bz;rw [RI,C1 hi,FU,C1 hi];rfl);have h1:=GZ p.gen ls w.heap.size a ls.length c w h.mn rfl (by omega) (nm _) f;rw [(Pm.eI p.gen ls b).1,show Pm.dC ls= 0 from (Pm.eI p.gen ls b).2]at h1;exact h1
variable{S:World→Prop}
theorem jg {K L:Act->World->Prop} (hK:Hid (∀a w,S w->(S w->L a w)->K a w)) (hno:False) (a:Act) (w:World) (h:K a w):False:=hno
theorem Sk.cP {st':Dm.St} (h:Sk w b p inv st m) (hd:ae.ai b.d st' w w'):ay b p inv st' m w w':=by obtain ⟨e,hk,a⟩:=hd;obtain ⟨h1,c⟩:=h.iH hk a;exact ⟨_,h1,c⟩
theorem IY (h:Sk w b p inv st m) (c:st.P.length<=1099511627776) (f:(Dm.flush st).2= 0): zF 214 #[zP b.q] w λe w'=>e= nf (CE #[])/\ay b p inv (Dm.flush st).1 m w w':=by have NE:=hT (λw1=>dv w1);have a:=ae.mC h.dk c;rw [f]at a;have a:=hT a;have FI:=hT (λw' (k:ae.ai b.d (Dm.flush st).1 w w')=>h.cP k);obtain ⟨_,_,_,i,_,_,_,_,_,_,_,g⟩:=h.reads;clear h c f;go_enter func214,ntmps214;go_wp2_with fail;refine zg a.out λw1 hw=>?_;have W:=hT hw;clear hw;go_wp2_with fail;refine zh (NE.out _) ?_;go_wp2;go_end0;exact ⟨rfl,FI.out _ W.out⟩
theorem IZ (h:Sk w b p inv st m) (c:st.P.length<=1099511627776) (f:(Dm.flush st).2≠0): zF 214 #[zP b.q] w λe w'=>e= aB (Dm.flush st).2/\ay b p inv (Dm.flush st).1 m w w':=by have NE:=hT (λw1=>dy _ f w1);have g:=hT (ae.mC h.dk c);have FI:=hT (λw' (k:ae.ai b.d (Dm.flush st).1 w w')=>h.cP k);obtain ⟨_,_,_,j,_,_,_,_,_,_,_,i⟩:=h.reads;clear h c f;obtain ⟨x,a⟩:=eX1 ((Dm.flush st).2);rw [<-a]at NE g⊢;clear a;unfold aB at NE⊢;go_enter func214,ntmps214;go_wp2_with fail;refine zg g.out λw1 hw=>?_;have W:=hT hw;clear hw;go_wp2_with fail;refine zh (NE.out _) ?_;go_wp2;exact ⟨rfl,rfl,FI.out _ W.out⟩
theorem tP (h:Sk w b p inv st m) (c:st.P.length<=1099511627776): zF 214 #[zP b.q] w λe w'=>e= aP (step st .fl).2/\ay b p inv (step st .fl).1 m w w':=by
 show Calls _ _ _ _ λe w'=>e= aP (Dm.flush st).2/\ay b p inv (Dm.flush st).1 m w w';by_cases a:(Dm.flush st).2= 0;· rw [a];exact IY h c a
 ·rw [aX a];exact IZ h c a
theorem I0 (h:Sk w b p inv st m) (hp:p.Ok) (n:st.P.length<=549755813888) (i:(Dm.write st (p.st:Int) (Hm.ah p.gen (p.g:Int) (p.N:Int) inv)).2= 0): zF 213 #[zP b.q] w λe w'=>e= nf (CE #[])/\ay b p inv (Dm.write st (p.st:Int) (Hm.ah p.gen (p.g:Int) (p.N:Int) inv)).1 m w w':=by
 have r:=hT (λw1=>yC hp inv w1);have hlen:(Hm.ah p.gen (p.g:Int) (p.N:Int) inv).length= 64:=Hm.bD _ _ _ _;obtain ⟨d,hd⟩:=eX1 (Hm.ah p.gen (p.g:Int) (p.N:Int) inv);rw [<-hd]at r i hlen⊢;clear hd;have u:=hT (λw1=>eL (.string (Om.B d)) w1);obtain ⟨x,f⟩:=eX1 ((Dm.write st (p.st:Int) d).2);have o:Hid (∀w1,zB w w1->zF 92 #[zP b.d.p,zI p.st, .string (Om.B d)] w1 λe w'=>e= nf (zI x)/\ay b p inv (Dm.write st (p.st:Int) d).1 m w w'):=hT λw1 hb=>by have O:=hp.small;have:=ae.fC (h.below hb).dk (p.st:Int) d (by omega) (by omega) n;rw [<-f]at this;exact this.mono λe w' ⟨e1,e2⟩=>⟨e1,((h.below hb).cP e2).below hb⟩
 have v:Hid (∀w1,zB w w1->Sk w1 b p inv st m):=hT λw1 hb=>h.below hb;rw [<-f]at i;subst i;have NE:=hT (λw1=>dv w1);obtain ⟨_,_,_,c3,c4,_,U,T,S,R,_,Q⟩:=h.reads;obtain ⟨st',a⟩:=eX1 ((Dm.write st (p.st:Int) d).1);rw [<-a]at o⊢;clear h n hp a f hlen;go_enter func213,ntmps213;go_region_held3 (λw'=>w'.cell? (zD b.q 3)= some (zP b.d.p)/\w'.cell? (zD b.q 4)= some (zI p.st)/\w'.cell? (zD b.q 6)= some (zU p.gen)/\w'.cell? (zD b.q 7)= some (zI p.g)/\w'.cell? (zD b.q 8)= some (zI p.N)/\w'.cell? (zD b.q 9)= some (.bool inv)) (first|(refine ⟨?_,?_,?_,?_,?_,?_⟩<;>assumption)|go_keep) (first
  | (go_at_call 252;refine zg (r.out _) λw1 hb=>?_;have s:=hT (((G3 _ w).drew).trans hb);have l:=v.out _ s.out;obtain ⟨_,_,_,M,L,_,K,J,I,H,_,G⟩:=l.reads;clear l hb)
  | (go_at_call 174;refine zh (u.out _) ?_)
  | (go_at_call 92;refine zg (o.out _ s.out) λw3 hw=>?_;have t:=hT hw;obtain ⟨b3,k,c⟩:=hw;have j:=k.reads;rw [c.q,c.dp]at j;obtain ⟨_,_,_,F,E,_,D,C,A,z,_,y⟩:=j;clear k c)
  | (go_at_call 168;refine zh (NE.out _) ?_));go_end0;exact ⟨rfl,t.out⟩
theorem I3 (h:Sk w b p inv st m) (hp:p.Ok) (o:st.P.length<=549755813888) (f:(Dm.write st (p.st:Int) (Hm.ah p.gen (p.g:Int) (p.N:Int) inv)).2≠0): zF 213 #[zP b.q] w λe w'=>e= aB (Dm.write st (p.st:Int) (Hm.ah p.gen (p.g:Int) (p.N:Int) inv)).2/\ay b p inv (Dm.write st (p.st:Int) (Hm.ah p.gen (p.g:Int) (p.N:Int) inv)).1 m w w':=by
 have s:=hT (λw1=>yC hp inv w1);have hlen:(Hm.ah p.gen (p.g:Int) (p.N:Int) inv).length= 64:=Hm.bD _ _ _ _;obtain ⟨d,hd⟩:=eX1 (Hm.ah p.gen (p.g:Int) (p.N:Int) inv);rw [<-hd]at s f hlen⊢;clear hd;have v:=hT (λw1=>eL (.string (Om.B d)) w1);obtain ⟨x,j⟩:=eX1 ((Dm.write st (p.st:Int) d).2);have r:Hid (∀w1,zB w w1->zF 92 #[zP b.d.p,zI p.st, .string (Om.B d)] w1 λe w'=>e= nf (zI x)/\ay b p inv (Dm.write st (p.st:Int) d).1 m w w'):=hT λw1 hb=>by have Q:=hp.small;have:=ae.fC (h.below hb).dk (p.st:Int) d (by omega) (by omega) o;rw [<-j]at this;exact this.mono λe w' ⟨e1,e2⟩=>⟨e1,((h.below hb).cP e2).below hb⟩
 have y:Hid (∀w1,zB w w1->Sk w1 b p inv st m):=hT λw1 hb=>h.below hb;rw [<-j]at f⊢;have NE:=hT (λw1=>dy x f w1);obtain ⟨_,_,_,c3,c4,_,V,U,T,S,_,R⟩:=h.reads;obtain ⟨st',a⟩:=eX1 ((Dm.write st (p.st:Int) d).1);rw [<-a]at r⊢;clear h o hp a j hlen f;unfold aB at NE⊢;go_enter func213,ntmps213;go_region_held (λw'=>w'.cell? (zD b.q 3)= some (zP b.d.p)/\w'.cell? (zD b.q 4)= some (zI p.st)/\w'.cell? (zD b.q 6)= some (zU p.gen)/\w'.cell? (zD b.q 7)= some (zI p.g)/\w'.cell? (zD b.q 8)= some (zI p.N)/\w'.cell? (zD b.q 9)= some (.bool inv)) (first|(refine ⟨?_,?_,?_,?_,?_,?_⟩<;>assumption)|go_keep) (first
  | (go_at_call 252;refine zg (s.out _) λw1 hb=>?_;have t:=hT (((G3 _ w).drew).trans hb);have n:=y.out _ t.out;obtain ⟨-, -, -,O,M, -,L,K,J,I, -,H⟩:=n.reads;clear n hb)
  | (go_at_call 174;refine zh (v.out _) ?_)
  | (go_at_call 92;refine zg (r.out _ t.out) λw3 hw=>?_;have u:=hT hw;obtain ⟨b3,l,i⟩:=hw;have k:=l.reads;rw [i.q,i.dp]at k;obtain ⟨-, -, -,G,F, -,E,D,C,A, -,z⟩:=k;clear l i)
  | (go_at_call 168;refine zh (NE.out _) ?_;refine T7 λhn=>?_;have c:=hn ⟨rfl,rfl,u.out⟩;clear hn;refine jg (by assumption) c {tmps:=#[],defers:= []} w3 ?_));exact c.elim
theorem I4 (h:Sk w b p inv st m) (hp:p.Ok) (c:st.P.length<=549755813888): zF 213 #[zP b.q] w λe w'=>e= aP (step st (cU p inv)).2/\ay b p inv (step st (cU p inv)).1 m w w':=by
 show Calls _ _ _ _ λe w'=>e= aP (Dm.write st (p.st:Int) (Hm.ah p.gen (p.g:Int) (p.N:Int) inv)).2/\ay b p inv (Dm.write st (p.st:Int) (Hm.ah p.gen (p.g:Int) (p.N:Int) inv)).1 m w w';by_cases a:(Dm.write st (p.st:Int) (Hm.ah p.gen (p.g:Int) (p.N:Int) inv)).2= 0;· rw [a];exact I0 h hp c a
 ·rw [aX a];exact I3 h hp c a
open Go.RowKit
theorem I5 (h:Sk w b p inv st m) (hp:p.Ok) (O:st.P.length<=549755813888) (hm:m.length= p.N) {i:Nat} (hi:i<p.pg) (o:(Dm.write st (p.ar i:Int) (Pm.ah p.gen (Tb.ar m i))).2= 0): zF 212 #[zP b.q,zI i] w λe w'=>e= nf (CE #[])/\ay b p inv (Dm.write st (p.ar i:Int) (Pm.ah p.gen (Tb.ar m i))).1 m w w':=by
 have S:=hT (λw1=>qq hp hi w1);have A:=Pa.kY hp hi;have C:=hp.high;have D:=hp.ag.a1;obtain ⟨k,hk⟩:=eX1 ((p.ar i:Nat):Int);have z:k<=1048576:=by omega
 rw [<-hk]at S o⊢;have MI:=hT (λw1=>jd k w1);have ML:=hT (λv w1=>xN v w1);have j:i<Tb.a_ m.length:=by rw [hm];exact hi
 have R:Hid (∀w1,zB w w1->zF 250 #[zP b.t.p,zI i] w1 (Tb.tO (Tb.ar m i) 0 w1)):=hT λw1 c=>by have:=Tb.yy (h.below c).tm (i:Int);rwa [Tb.tI j,Tb.tJ j]at this
 have F:Hid (∀w1 v,Tb.Ints w1 v (Tb.ar m i)->zF 251 #[zU p.gen,v] w1 λe w'=>e= zV (.string (Om.B (Pm.ah p.gen (Tb.ar m i)))) (zI 0)/\zB w1 w'):=hT λw1 v r=>yD hp (pQ h.tm.ok i) r;have hlen:(Pm.ah p.gen (Tb.ar m i)).length= 64:=Pm.bD _ _;obtain ⟨ls,l⟩:=eX1 (Tb.ar m i);rw [<-l]at F R o hlen⊢;obtain ⟨d,hd⟩:=eX1 (Pm.ah p.gen ls);rw [<-hd]at F o hlen⊢;clear hd l j;have MU:=hT (λw1=>eL (.string (Om.B d)) w1);obtain ⟨x,y⟩:=eX1 ((Dm.write st k d).2);have Q:Hid (∀w1,zB w w1->zF 92 #[zP b.d.p,zI k, .string (Om.B d)] w1 λe w'=>e= nf (zI x)/\ay b p inv (Dm.write st k d).1 m w w'):=hT λw1 c=>by have:=ae.fC (h.below c).dk k d (by omega) (by omega) O;rw [<-y]at this;exact this.mono λe w' ⟨e1,e2⟩=>⟨e1,((h.below c).cP e2).below c⟩
 have E:Hid (∀w1,zB w w1->Sk w1 b p inv st m):=hT λw1 c=>h.below c;rw [<-y]at o;subst o;have NE:=hT (λw1=>dv w1);obtain ⟨c0,c1,c2, -,c4,c5, -, -, -, -, -,cf⟩:=h.reads;obtain ⟨st',f⟩:=eX1 ((Dm.write st k d).1);rw [<-f]at Q⊢;clear h O hp f y hlen A C D hk z hm hi;go_enter func212,ntmps212;go_wp2_with fail;go_region_held3 (λw'=>w'.cell? (zD b.q 0)= some (zI p.a)/\w'.cell? (zD b.q 1)= some (zI p.n)/\w'.cell? (zD b.q 2)= some (zI p.g)/\w'.cell? (zD b.q 4)= some (zI p.st)/\w'.cell? (zD b.q 5)= some (zI p.ln)) (first|(refine ⟨?_,?_,?_,?_,?_⟩<;>assumption)|go_keep) (first
  | (go_at_call 243;refine zg (S.out _) λw1 c=>?_;have H:=hT (gU c);have M:=E.out _ H.out;obtain ⟨Z,Y,X, -,W,V, -, -, -, -,u,U⟩:=M.reads;clear M c)
  | (go_at_call 220;refine zh (MI.out _) ?_));clear c0 c1 c2 c4 c5 cf Z Y X W V;go_wp2_with fail;refine (R.out _ H.out).mono ?_;rintro e w2 ⟨v,rfl,r,_,c⟩;have VI:=hT r;have G:=zT H c;have L:=E.out _ G.out;obtain ⟨-, -, -,u3, -, -,u6, -, -, -, -,uf⟩:=L.reads;clear c r L u U;go_wp2_with fail;refine zh (ML.out _ _) ?_;go_wp2_with fail;go_region_held3 (λw'=>w'.cell? (zD b.q 3)= some (zP b.d.p)/\w'.cell? (zD b.q 6)= some (zU p.gen)) (first|(refine ⟨?_,?_⟩<;>assumption)|go_keep) (first
  | (go_at_call 251;refine zg (F.out _ _ (yz VI.out)) λw4 c=>?_;have T:=hT (G.out.trans ((gU c).mono G.out.size));have K:=E.out _ T.out;obtain ⟨-, -, -,v3, -, -,v6, -, -, -, -,vf⟩:=K.reads;clear K c)
  | (go_at_call 174;refine zh (MU.out _) ?_)
  | (go_at_call 92;refine zg (Q.out _ T.out) λw6 hw=>?_;have W6:=hT hw;obtain ⟨b6,J,s⟩:=hw;have I:=J.reads;rw [s.q,s.dp]at I;obtain ⟨-, -, -,x3, -, -,x6, -, -, -, -,xf⟩:=I;clear J s)
  | (go_at_call 168;refine zh (NE.out _) ?_));go_end0;exact ⟨rfl,W6.out⟩
theorem I6 (h:Sk w b p inv st m) (hp:p.Ok) (Q:st.P.length<=549755813888) (hm:m.length= p.N) {i:Nat} (hi:i<p.pg) (l:(Dm.write st (p.ar i:Int) (Pm.ah p.gen (Tb.ar m i))).2≠0): zF 212 #[zP b.q,zI i] w λe w'=>e= aB (Dm.write st (p.ar i:Int) (Pm.ah p.gen (Tb.ar m i))).2/\ay b p inv (Dm.write st (p.ar i:Int) (Pm.ah p.gen (Tb.ar m i))).1 m w w':=by
 have T:=hT (λw1=>qq hp hi w1);have C:=Pa.kY hp hi;have D:=hp.high;have E:=hp.ag.a1;obtain ⟨k,hk⟩:=eX1 ((p.ar i:Nat):Int);have A:k<=1048576:=by omega
 rw [<-hk]at T l⊢;have MI:=hT (λw1=>jd k w1);have ML:=hT (λv w1=>xN v w1);have j:i<Tb.a_ m.length:=by rw [hm];exact hi
 have S:Hid (∀w1,zB w w1->zF 250 #[zP b.t.p,zI i] w1 (Tb.tO (Tb.ar m i) 0 w1)):=hT λw1 c=>by have:=Tb.yy (h.below c).tm (i:Int);rwa [Tb.tI j,Tb.tJ j]at this
 have G:Hid (∀w1 v,Tb.Ints w1 v (Tb.ar m i)->zF 251 #[zU p.gen,v] w1 λe w'=>e= zV (.string (Om.B (Pm.ah p.gen (Tb.ar m i)))) (zI 0)/\zB w1 w'):=hT λw1 v s=>yD hp (pQ h.tm.ok i) s;have hlen:(Pm.ah p.gen (Tb.ar m i)).length= 64:=Pm.bD _ _;obtain ⟨ls,r⟩:=eX1 (Tb.ar m i);rw [<-r]at G S l hlen⊢;obtain ⟨d,hd⟩:=eX1 (Pm.ah p.gen ls);rw [<-hd]at G l hlen⊢;clear hd r j;have MU:=hT (λw1=>eL (.string (Om.B d)) w1);obtain ⟨x,z⟩:=eX1 ((Dm.write st k d).2);have R:Hid (∀w1,zB w w1->zF 92 #[zP b.d.p,zI k, .string (Om.B d)] w1 λe w'=>e= nf (zI x)/\ay b p inv (Dm.write st k d).1 m w w'):=hT λw1 c=>by have:=ae.fC (h.below c).dk k d (by omega) (by omega) Q;rw [<-z]at this;exact this.mono λe w' ⟨e1,e2⟩=>⟨e1,((h.below c).cP e2).below c⟩
 have F:Hid (∀w1,zB w w1->Sk w1 b p inv st m):=hT λw1 c=>h.below c;rw [<-z]at l⊢;have NE:=hT (λw1=>dy x l w1);obtain ⟨c0,c1,c2, -,c4,c5, -, -, -, -, -,cf⟩:=h.reads;obtain ⟨st',f⟩:=eX1 ((Dm.write st k d).1);rw [<-f]at R⊢;clear h Q hp f z hlen l C D E hk A hm hi;unfold aB at NE⊢;go_enter func212,ntmps212;go_wp2_with fail;go_region_held3 (λw'=>w'.cell? (zD b.q 0)= some (zI p.a)/\w'.cell? (zD b.q 1)= some (zI p.n)/\w'.cell? (zD b.q 2)= some (zI p.g)/\w'.cell? (zD b.q 4)= some (zI p.st)/\w'.cell? (zD b.q 5)= some (zI p.ln)) (first|(refine ⟨?_,?_,?_,?_,?_⟩<;>assumption)|go_keep) (first
  | (go_at_call 243;refine zg (T.out _) λw1 c=>?_;have I:=hT (gU c);have O:=F.out _ I.out;obtain ⟨q0,Z,Y, -,X,W, -, -, -, -,y,V⟩:=O.reads;clear O c)
  | (go_at_call 220;refine zh (MI.out _) ?_));clear c0 c1 c2 c4 c5 cf q0 Z Y X W;go_wp2_with fail;refine (S.out _ I.out).mono ?_;rintro e w2 ⟨v,rfl,s,_,c⟩;have VI:=hT s;have H:=zT I c;have M:=F.out _ H.out;obtain ⟨-, -, -,u3, -, -,u6, -, -, -, -,uf⟩:=M.reads;clear c s M y V;go_wp2_with fail;refine zh (ML.out _ _) ?_;go_wp2_with fail;go_region_held (λw'=>w'.cell? (zD b.q 3)= some (zP b.d.p)/\w'.cell? (zD b.q 6)= some (zU p.gen)) (first|(refine ⟨?_,?_⟩<;>assumption)|go_keep) (first
  | (go_at_call 251;refine zg (G.out _ _ (yz VI.out)) λw4 c=>?_;have U:=hT (H.out.trans ((gU c).mono H.out.size));have L:=F.out _ U.out;obtain ⟨-, -, -,v3, -, -,v6, -, -, -, -,vf⟩:=L.reads;clear L c)
  | (go_at_call 174;refine zh (MU.out _) ?_)
  | (go_at_call 92;refine zg (R.out _ U.out) λw6 hw=>?_;have W6:=hT hw;obtain ⟨b6,K,u⟩:=hw;have J:=K.reads;rw [u.q,u.dp]at J;obtain ⟨-, -, -,x3, -, -,x6, -, -, -, -,xf⟩:=J;clear K u)
  | (go_at_call 168;refine zh (NE.out _) ?_;refine T7 λhn=>?_;have o:=hn ⟨rfl,rfl,W6.out⟩;clear hn;refine jg (by assumption) o {tmps:=#[],defers:= []} w6 ?_));exact o.elim
theorem yE (h:Sk w b p inv st m) (hp:p.Ok) (c:st.P.length<=549755813888) (hm:m.length= p.N) {i:Nat} (hi:i<p.pg): zF 212 #[zP b.q,zI i] w λe w'=>e= aP (step st (db p m i)).2/\ay b p inv (step st (db p m i)).1 m w w':=by
 show Calls _ _ _ _ λe w'=>e= aP (Dm.write st (p.ar i:Int) (Pm.ah p.gen (Tb.ar m i))).2/\ay b p inv (Dm.write st (p.ar i:Int) (Pm.ah p.gen (Tb.ar m i))).1 m w w';by_cases a:(Dm.write st (p.ar i:Int) (Pm.ah p.gen (Tb.ar m i))).2= 0;· rw [a];exact I5 h hp c hm hi a
 ·rw [aX a];exact I6 h hp c hm hi a
open Go.Shelf Go.RowKit Go.Maps Go.Sort
def I_:Go.Shelf.Ren:=⟨λ|20=>255|n=>n,λ|0=>0|3=>3|4=>4|22=>59|n=>n,λ|n=>n⟩
theorem yG:Lays2.n20 prog I_:={
 mixed:=by kernel_rfl
 f20:=func255.trans (congrArg some (by kernel_rfl))
 t0:=underlying0
 a0:=isAgg0
 z0:=sizeOf0
 v0:=zeroValue0
 t3:=underlying3
 a3:=isAgg3
 z3:=sizeOf3
 v3:=zeroValue3
 t4:=underlying4
 a4:=isAgg4
 z4:=sizeOf4
 v4:=zeroValue4
 t22:=underlying59
 a22:=isAgg59
 z22:=sizeOf59
 v22:=zeroValue59
 i3:=by kernel_rfl}
def sorted (l:zN):zN:=l.mergeSort λx y=>decide (x<=y)
theorem mG (l:zN):(sorted l).length= l.length:=(Ve _ _).length_eq
theorem Ja (l:zN) (x:Int):x∈sorted l↔x∈l:=(Ve _ _).mem_iff
theorem Jb (l:zN):(sorted l).Pairwise (λx y=>x<=y):=by have:=List.pairwise_mergeSort (le:=λ(x y:Int)=>decide (x<=y)) (by intro a b c;simp;omega) (by intro a b;simp;omega) l;exact this.imp λh=>by simpa using h
theorem yH {l:zN} (h:Tb.Ints w v l) (o:l.length<=1099511627776):zF 231 #[v] w λe w'=>e= nf (CE #[])/\Tb.Ints w' v (sorted l)/\ae.Fr (λk=>v.ownBlock= some k) w w':=by
 rcases h.2 with ⟨rfl,m⟩|⟨g,cap,cur,rfl,p,b,j,i,f,d⟩;· have a:=VS m;subst a;refine (AnyM.slices_Sort_int_none Tb.ql none 0 w).mono ?_;rintro e w' ⟨c,rfl⟩;exact ⟨c,by rw [show sorted []= []from by simp [sorted]];exact Ts _ _ _ _,ae.Fr.refl _ _⟩
 ·have hH:Holds (Value.int lg) w g 0 l.toArray:=holds_of_block_i b (by simpa using d);refine (AnyM.slices_Sort_int Tb.ql g 0 cap l w hH (ae.lt_of_heap b) (by omega)).mono ?_;rintro e w' ⟨c,n,os,rfl⟩;refine ⟨c,?_,ae.Fr.jz (grownBy_sorted_i _) λk hk=>by injection hk with hk;subst hk;rfl⟩;have:=ownsRow_sorted_i (os:=os) (n:=n) (ss:=l) (ts:=sorted l) (mG l) (yb g) b j i f;show Tt _ _ _ _ _ (sorted l).length _;rw [mG];exact this
theorem tQ (d:Array Int) (m:Nat):(VK d m).length<=m/\((VK d m).length= m↔∀j,j<m->Vo d j= true):=by induction m with
 | zero=>simp [VK]
 | succ m ih => rw [Ya,DC];cases hk:Vo d m with
 | true =>
 refine ⟨by simp;exact ih.1,?_⟩;constructor;·
  intro h j a;by_cases e:j= m;· rw [e];exact hk
  ·exact ih.2.1 (by simpa using h) j (by omega)
 ·intro h;have:=ih.2.2 λj a=>h j (by omega);simp [this]
 | false =>
 refine ⟨by simp;omega,?_⟩;constructor;· intro h;have:=ih.1;simp at h;omega
 ·intro h;rw [h m (by omega)]at hk;cases hk
variable{a:Option Addr}
theorem yI {c:Nat} {l:zN} (h:Tb.Ints w (.slice a l.length c) l) (y:l.length<=1099511627776):zF 255 #[.slice a l.length c] w λe w'=>e= nf (.slice a (TC l).length c)/\Tb.Rd w' a (TC l)/\ae.Fr (λk=>(AF a l.length c).ownBlock= some k) w w':=by
 rcases h.2 with ⟨j,b⟩|⟨g,cap,cur,j,z,m,r,v,u,p⟩;· have d:=VS b;subst d;refine (calls_of_every_depth λD=>AnyS.slices_Compact_int_empty_in yG D a c w).mono ?_;rintro e w' ⟨f,rfl⟩;exact ⟨f,λhn=>(hn rfl).elim,ae.Fr.refl _ _⟩
 ·injection j with h1 h2 h3;subst h1;subst h3;have hH:Holds (Value.int lg) w g 0 l.toArray:=holds_of_block_i m (by simpa using p);refine (calls_of_every_depth λD=>AnyS.slices_Compact_int_in yG D g 0 c l w hH (by omega) r).mono ?_;rintro e w' ⟨f,q,rfl⟩;have hle:=(tQ l.toArray l.length).1;have b:(TC l ++ vw (l.length - (TC l).length) 0).toArray.size= l.toArray.size:=by have:(TC l).length<=l.length:=hle;simp;omega
  refine ⟨f,λ_=>⟨g,0,rfl,?_,λi x hx=>?_⟩,?_⟩;· have:=ae.lt_of_heap m;simpa using this
  ·have hi:=(C2.1 hx).1;have s:i< (TC l ++ vw (l.length - (TC l).length) 0).toArray.size:=by simp;omega
   rw [cell?_putRow (Value.int lg) (Sort.ahead w q) g 0 l.toArray _ hH b i s];have t:(TC l ++ vw (l.length - (TC l).length) 0).toArray[i]! = x:=by simp [List.getElem?_append_left hi,hx]
   rw [t]
  ·have o:=grownBy_sorted_i (w:=w) (g:=g) (n:=q) (os:=#[]) (TC l ++ vw (l.length - (TC l).length) 0).toArray;rw [grow_empty]at o;exact ae.Fr.jz o λk hk=>by injection hk with hk;subst hk;rfl
theorem Jc (l:zN) (x:Int):x∈TC l↔x∈l:=by
 have key:∀m,m<=l.length->(x∈VK l.toArray m↔∃j,j<m/\l[j]?= some x):=by intro m;induction m with
  | zero=>intro _;simp [VK]
  | succ m ih =>
  intro hm;have b:l.toArray[m]! = l[m]:=by simp [show m<l.length by omega]
  rw [Ya,RR,ih (by omega),b];constructor;·
   rintro (⟨j,c,a⟩|a);· exact ⟨j,by omega,a⟩
   ·split at a;· rw [H5]at a;exact ⟨m,by omega,by rw [C1 (by omega),a]⟩
    ·cases a
  ·rintro ⟨j,c,a⟩;by_cases e:j= m;· subst e;rw [C1 (by omega)]at a;injection a with a;cases hk:Vo l.toArray j with
    | true=>right;simp [a]
    | false =>
    left;simp only [Vo,decide_eq_false_iff_not,not_or,Decidable.not_not]at hk;obtain ⟨d,h1⟩:=hk;refine ⟨j - 1,by omega,?_⟩;rw [b]at h1;have:l.toArray[j - 1]! = l[j - 1]'(by omega):=by simp [show j - 1<l.length by omega]
    rw [this]at h1;rw [C1 (by omega),<-h1,a]
   ·exact .inl ⟨j,by omega,a⟩
 unfold TC;rw [key l.length (nm _)];constructor;· rintro ⟨j,_,a⟩;exact P1 a
 ·intro a;obtain ⟨j,c⟩:=TF a;exact ⟨j,(C2.1 c).1,c⟩
theorem Jd (l:zN):(TC l).length<=l.length:=(tQ _ _).1
theorem Je {l:zN} (f:l.Pairwise (λx y=>x<=y)):(TC l).length= l.length↔l.Nodup:=by
 unfold TC;rw [(tQ _ _).2];have a:∀j (h:j<l.length),l.toArray[j]! = l[j]:=λj h=>by simp [h]
 rw [Ub]at f;constructor;·
  intro h;have step:∀j (b:j+1<l.length),l[j] <l[j+1]:=λj b=>by
   have h1:=h (j+1) b;simp only [Vo,decide_eq_true_eq]at h1;rcases h1 with h1|h1;· omega
   ·rw [a _ b,show j+1 - 1= j by omega,a j (by omega)]at h1;have:=f j (j+1) (by omega) b (by omega);omega
  have oQ:∀d j (b:j+1+d<l.length),l[j]'(by omega) <l[j+1+d]:=by intro d;induction d with
   | zero=>intro j b;exact step j b
   | succ d ih => intro j b;have m:=ih j (by omega);have k:=step (j+1+d) (by omega);exact Int.lt_trans m k
  rw [Yb,Ub];intro i j hi c g;have:=oQ (j - i - 1) i (by omega);have e:i+1+ (j - i - 1)= j:=by omega
  simp only [e]at this;omega
 ·intro h j c;simp only [Vo,decide_eq_true_eq];by_cases n:j= 0;· exact .inl n
  ·right;rw [a _ c,a (j - 1) (by omega)];rw [Yb,Ub]at h;have:=h (j - 1) j (by omega) c (by omega);exact λe=>this e.symm
variable{A:List Op}
theorem qu {B:List Op} {o:Op} (h:(aa st A).2= 0) (a:(step (aa st A).1 o).2≠0):aa st (A ++ o :: B)= step (aa st A).1 o:=by rw [ia _ h,iy _ a]
theorem mI {o:Op} (h:(aa st A).2= 0):aa st (A ++ [o])= step (aa st A).1 o:=by rw [ia _ h,kd]
def iM (ps:List Nat):zN:=TC (sorted (ps.map λ(q:Nat)=>((q / 13:Nat):Int)))
def aI (ps:List Nat):List Nat:=(iM ps).map Int.toNat
theorem tS (ps:List Nat) (x:Int):x∈iM ps↔∃q∈ps,((q / 13:Nat):Int)= x:=by unfold iM;rw [Jc,Ja,Tp]
theorem Jg (ps:List Nat):(iM ps).length<=ps.length:=by have:=Jd (sorted (ps.map λ(q:Nat)=>((q / 13:Nat):Int)));rw [mG,PN]at this;exact this
theorem Jh (ps:List Nat):(aI ps).length= (iM ps).length:=PN ..
theorem yK (ps:List Nat):pS ps (aI ps):=by
 intro i;unfold aI;rw [Tp];constructor;· rintro ⟨x,b,rfl⟩;obtain ⟨q,a,rfl⟩:=(tS ps x).1 b;exact ⟨q,a,by omega⟩
 ·rintro ⟨q,a,rfl⟩;exact ⟨((q / 13:Nat):Int),(tS ps _).2 ⟨q,a,rfl⟩,by omega⟩
theorem Ji (h:k< (iM ps).length):∃i:Nat,(iM ps)[k]?= some (i:Int)/\(aI ps)[k]?= some i/\∃q∈ps,q / 13= i:=by have a:=C1 h;obtain ⟨q,b,e⟩:=(tS ps _).1 (SR h);refine ⟨q / 13,by rw [a,<-e],?_,q,b,rfl⟩;unfold aI;rw [RI,a,Option.map_some,<-e,GH]
theorem Jj (h:cs[k]?= some i):aQ p m (cs.take (k+1))= aQ p m (cs.take k) ++ [db p m i]:=by obtain ⟨hk,e⟩:=C2.1 h;unfold aQ;rw [TD hk,R0,e];rfl
theorem Jk (h:cs[k]?= some i):aQ p m cs= aQ p m (cs.take k) ++ db p m i :: aQ p m (cs.drop (k+1)):=by
 obtain ⟨hk,e⟩:=C2.1 h
 unfold aQ
 conv=>lhs;rw [<-T8 k cs,UM hk,e]
 rw [R0,List.map_cons]
theorem yL (p:Pa) (m:zN) (cs:List Nat):((aQ p m cs).map sec).sum= cs.length:=by induction cs with
 | nil=>rfl
 | cons i cs ih => show sec (db p m i) + ((aQ p m cs).map sec).sum= _;rw [ih,Tl];show (Pm.ah p.gen (Tb.ar m i)).length / 64+cs.length= _;rw [Pm.bD];omega
theorem dJ (h:ae.Fr F w w') {g off:Nat} (hg:g<w.heap.size) (hn:¬F g):w'.cell? (zD g off)= w.cell? (zD g off):=gV (p:=(zD g off)) (h.block g hg hn)
theorem Jl {l:zN} (h:Tb.Rd w a l) (c:ae.Fr F w w') (e:∀g off,a= some ⟨g,off,none⟩->¬F g):Tb.Rd w' a l:=λhne=>by obtain ⟨g,off,d,b,f⟩:=h hne;refine ⟨g,off,d,ti b c.size,λi x hx=>?_⟩;rw [dJ c b (e g off d)];exact f i x hx
structure iN (w2:World) (b:Bk) (p:Pa) (inv:Bool) (st:Dm.St) (m:zN) (cs:List Nat) (k:Nat) (wr:World):Prop where
 done:(aa st (aQ p m (cs.take k))).2= 0
 cP:ay b p inv (aa st (aQ p m (cs.take k))).1 m w2 wr
variable{w3:World}
theorem iN.next {wr:World} {b':Bk} (h:iN w2 b p inv st m cs k wr) (a:Sp b b' w2 wr) (c:cs[k]?= some i) (d:(step (aa st (aQ p m (cs.take k))).1 (db p m i)).2= 0) (hw:ay b' p inv (step (aa st (aQ p m (cs.take k))).1 (db p m i)).1 m wr w3):iN w2 b p inv st m cs (k+1) w3:=by
 have e:aa st (aQ p m (cs.take (k+1)))= step (aa st (aQ p m (cs.take k))).1 (db p m i):=by rw [Jj c,mI h.done]
 exact ⟨by rw [e];exact d,by rw [e];exact ay.trans a hw⟩
theorem iN.stop {wr:World} {b':Bk} (B:List Op) (h:iN w2 b p inv st m cs k wr) (a:Sp b b' w2 wr) (c:cs[k]?= some i) (d:(step (aa st (aQ p m (cs.take k))).1 (db p m i)).2≠0) (hw:ay b' p inv (step (aa st (aQ p m (cs.take k))).1 (db p m i)).1 m wr w3): (aa st (aQ p m cs ++ B)).2= (step (aa st (aQ p m (cs.take k))).1 (db p m i)).2/\ay b p inv (aa st (aQ p m cs ++ B)).1 m w2 w3:=by
 have e:aa st (aQ p m cs ++ B)= step (aa st (aQ p m (cs.take k))).1 (db p m i):=by rw [Jk c,NR,TN,qu h.done d]
 exact ⟨by rw [e],by rw [e];exact ay.trans a hw⟩
theorem Jm (q:Nat):(q:Int).tdiv 13= ((q / 13:Nat):Int):=by rw [Int.tdiv_eq_ediv_of_nonneg (by omega)];rfl
theorem Jn (h:Sk w b p inv st m) (hp:p.Ok) (hm:m.length= p.N) {ps:List Nat} (t:∀q∈ps,q<p.N) (hl:ps.length<=1048576) (hP:st.P.length<=274877906944) (a:Option Addr) (c:Nat) (hr:Tb.Rd w a (ps.map λ(q:Nat)=>(q:Int))): zF 222 #[zP b.q, .slice a ps.length c] w λe w'=> e= aP (aa st (aQ p m (aI ps) ++ [.fl])).2/\ay b p inv (aa st (aQ p m (aI ps) ++ [.fl])).1 m w w':=by
 obtain ⟨n,hn⟩:=eX1 ps.length;rw [<-hn]at hl⊢;have HN:=hT hn;have W:=hT h;have HR:Hid (∀wr,zB w wr->Tb.Rd wr a (ps.map λ(q:Nat)=>(q:Int))):=hT λwr R=>hr.below R;have V:=hT (⟨hp,hm,t,hP⟩:p.Ok/\m.length= p.N/\(∀q∈ps,q<p.N)/\st.P.length<=274877906944);obtain ⟨L,hL⟩:=eX1 (ps.map λ(q:Nat)=>((q / 13:Nat):Int));have HL:=hT hL;clear h hr hp hm t hP hn hL;go_enter func222,ntmps222;go_wp2;go_loopw [11,4] (λi s wr=>∃(k:Nat) (v:Value),i= zI k/\s= v/\k<=n/\Hid (Tb.cA w (L.take k) v k wr)) (λi _ _=>n - (wo i).toNat);case atStart=>exact ⟨0,_,rfl,rfl,yb _,hT (by rw [Tj];exact Tb.cA.nil zR)⟩
 case round=>
  obtain ⟨k,v,rfl,rfl,hk,u⟩:=hrel;by_cases bx:k<n;·
   have ad:k<ps.length:=by have:=HN.out;omega
   obtain ⟨q,M⟩:∃q,ps[k]?= some q:=⟨ps[k],C1 ad⟩;have bg:=V.out.2.2.1 q (P1 M);have bm:=V.out.1.ag.N1;have E:(ps.map λ(q:Nat)=>(q:Int))[k]?= some (q:Int):=by rw [RI,M];rfl
   obtain ⟨g,off,S,R,hc⟩:=(HR.out wr u.out.below) (λe=>by rw [e]at E;simp at E);subst S;have hc:=hc k (q:Int) E;have ao:L[k]?= some ((q / 13:Nat):Int):=by rw [HL.out,RI,M];rfl
   have T:L.take (k+1)= L.take k ++ [((q / 13:Nat):Int)]:=by obtain ⟨h1,h2⟩:=C2.1 ao;rw [TD h1,h2]
   obtain ⟨y,hy⟩:=eX1 ((q / 13:Nat):Int);have e1:(q:Int).tdiv 13= y:=by rw [hy];exact Jm q
   have e2:lg.wrap y= y:=rr _ (by omega);rw [<-hy]at T;have bs:=hT T;have bt:=hT u.out.len;obtain ⟨C,K,hv⟩:=ae.ck u.out.row;subst hv;have bq:=hT (u.out.own y);have bf:lg.wrap ((k:Int) +1)= ((k+1:Nat):Int):=by rw [rr _ (by omega)];rfl
   clear M bg bm E ao T hy ad R;go_wp2_with (at_builtin;refine Tb.mH rfl (.tmp 15) (.tmp 18) 59 underlying59 rfl (.slice C k K) k (L.take k) rfl bt.out (by omega) bq.out wr.heap.size y rfl (by simp) ?_;intro v' w2 h1 h2 h3;have G2:=hT (u.out.add h1 h2 h3);clear h1 h2 h3);go_roundw;case rel=>exact ⟨k+1,_,rfl,rfl,by omega,by rw [bs.out];exact G2⟩
   case measure=>simp [wo];omega
  ·obtain rfl:k= n:=by omega
   have af:L.length= k:=by rw [HL.out,PN,<-HN.out]
   obtain ⟨C,K,hv⟩:=ae.ck u.out.row;subst hv;have hints:Tb.Ints wr (.slice C k K) L:=by have h1:=u.out.row;rw [OP (by omega)]at h1;show Tt _ _ _ _ _ _ _;rw [af];exact h1
   have G:=u.out.new;have H:=u.out.below;have SO:=hT (yH hints (by omega));have SL:Hid ((sorted L).length= k):=hT (by rw [mG,af]);have U:=hT G;have bb:=hT H;clear u hints G H;go_wp2_with fail;refine SO.out.mono ?_;rintro e w1 ⟨rfl,hs,hf⟩;have B1:=hT (bb.out.trans (hf.below bb.out.size U.out));have CO:Hid (zF 255 #[.slice C k K] w1 λe w'=>e= nf (.slice C (iM ps).length K)/\Tb.Rd w' C (iM ps)/\ae.Fr (λk1=>(AF C k K).ownBlock= some k1) w1 w'):=hT (by have:=yI (l:=sorted L) (w:=w1) (a:=C) (c:=K) (by rw [SL.out];exact hs) (by rw [SL.out];omega);rw [SL.out,HL.out]at this;exact this);clear hs hf SO;go_wp2_with fail;refine CO.out.mono ?_;rintro e w2 ⟨rfl,Z,hf⟩;have B2:=hT (B1.out.trans (hf.below B1.out.size U.out));have bo:Hid (∀wr2,ae.Fr b.fp w2 wr2->Tb.Rd wr2 C (iM ps)):=hT λwr2 hfr=>Jl Z hfr λg off u R=>by have h1:=W.out.lt g R;have h2:=U.out g (by rw [u];rfl);omega
   have P0:Hid (iN w2 b p inv st m (aI ps) 0 w2):=hT ⟨by rw [Tj];rfl,by rw [Tj];exact ay.refl (W.out.below B2.out)⟩;have F:=Jg ps;rw [<-HN.out]at F;obtain ⟨n2,O⟩:=eX1 ((iM ps).length);rw [<-O]at F⊢;have aw:=hT O;clear Z hf CO O;go_wp2_with fail;go_loopw [26] (λv wr=>∃f:Nat,v= zI f/\f<=n2/\Hid (iN w2 b p inv st m (aI ps) f wr)) (λv _=>n2 - (wo v).toNat);case atStart=>exact ⟨0,rfl,yb _,P0⟩
   case round=>
    obtain ⟨f,rfl,bG,r⟩:=hrel;obtain ⟨b',A,j⟩:=r.out.cP;have d:=(kS W.out.dk.ok (aQ p m ((aI ps).take f)));rw [yL,E4]at d;obtain ⟨hp,hm,t,hP⟩:=V.out;by_cases ab:f<n2;·
     have bf:lg.wrap ((f:Int) +1)= ((f+1:Nat):Int):=by rw [rr _ (by omega)];rfl
     obtain ⟨i,D,Q,q,M,bl⟩:=Ji (ps:=ps) (k:=f) (by rw [<-aw.out];exact ab);have hi:i<p.pg:=by have:=t q M;unfold Pa.pg Tb.a_;omega
     obtain ⟨g,off,S,R,hc⟩:=(bo.out _ r.out.cP.fr) (λe=>by rw [e]at D;simp at D);subst S;have hc:=hc f (i:Int) D;have WP:=yE A hp (by omega) hm hi;rw [j.q]at WP;have NX:Hid (∀w3,(step (aa st (aQ p m ((aI ps).take f))).1 (db p m i)).2= 0->ay b' p inv (step (aa st (aQ p m ((aI ps).take f))).1 (db p m i)).1 m _ w3->iN w2 b p inv st m (aI ps) (f+1) w3):=hT λw3 z hw=>r.out.next j Q z hw;have NO:Hid (∀w3,(step (aa st (aQ p m ((aI ps).take f))).1 (db p m i)).2≠0->ay b' p inv (step (aa st (aQ p m ((aI ps).take f))).1 (db p m i)).1 m _ w3->(aa st (aQ p m (aI ps) ++ [.fl])).2= (step (aa st (aQ p m ((aI ps).take f))).1 (db p m i)).2/\ay b p inv (aa st (aQ p m (aI ps) ++ [.fl])).1 m w2 w3):=hT λw3 z hw=>r.out.stop [.fl] j Q z hw;obtain ⟨x,Y⟩:=eX1 ((step (aa st (aQ p m ((aI ps).take f))).1 (db p m i)).2);rw [<-Y]at WP NX NO;clear r A j d hp hm t hP D Q M bl hi R Y;by_cases z:x= 0;·
      subst z;rw [cF]at WP;have WP:=hT WP;go_wp2_with fail;refine zg WP.out λw3 hw=>?_;have J:=hT (NX.out w3 (by first|rfl|trivial) hw);clear hw;go_wp2_with fail;go_roundw;case rel=>exact ⟨f+1,rfl,by omega,J⟩
      case measure=>simp [wo];omega
     ·rw [aX z]at WP;have WP:=hT WP;have H0:=hT z;clear z;unfold aB at WP;go_wp2_with fail;refine zg WP.out λw3 hw=>?_;have J:=hT (NO.out w3 H0.out hw);clear hw;go_wp2_with fail;refine ⟨rfl,?_,ay.below B2.out J.out.2⟩;rw [J.out.1,aX H0.out];rfl
    ·obtain rfl:f= n2:=by omega
     have I:=OP (by rw [Jh,<-aw.out];exact nm _);have o:=r.out.done;rw [I]at A d o;have B:=tP A (by omega);rw [j.q]at B;have e2:aa st (aQ p m (aI ps) ++ [.fl])= step (aa st (aQ p m (aI ps))).1 .fl:=mI o;have ba:Hid (∀w3,ay b' p inv (step (aa st (aQ p m (aI ps))).1 .fl).1 m _ w3->ay b p inv (aa st (aQ p m (aI ps) ++ [.fl])).1 m w w3):=hT λw3 hw=>by rw [e2];exact ay.below B2.out (ay.trans j hw)
     have X:Hid (aP (aa st (aQ p m (aI ps) ++ [.fl])).2= aP (step (aa st (aQ p m (aI ps))).1 .fl).2):=hT (by rw [e2]);obtain ⟨x,Y⟩:=eX1 ((step (aa st (aQ p m (aI ps))).1 .fl).2);rw [<-Y]at B X;clear r A j d hp hm t hP I o e2 Y;by_cases z:x= 0;· subst z;rw [cF]at B X;have B:=hT B;go_wp2_with fail;refine zg B.out λw3 hw=>?_;have J:=hT (ba.out w3 hw);clear hw;go_wp2_with fail;go_end0;exact ⟨X.out.symm,J.out⟩
     ·rw [aX z]at B X;have B:=hT B;unfold aB at B X;clear z;go_wp2_with fail;refine zg B.out λw3 hw=>?_;have J:=hT (ba.out w3 hw);clear hw;go_wp2_with fail;exact ⟨rfl,X.out.symm,J.out⟩
theorem mN (h:Sk w b p inv st m):zF 83 #[zP b.q] w (zQ (.bool inv) w):=by obtain ⟨-, -, -, -, -, -, -, -, -,c, -,a⟩:=h.reads;clear h;go_enter func83,ntmps83;go_wp2;go_ret;exact ⟨rfl,rfl⟩
theorem jL (h:Sk w b p inv st m) (k:Int) (hk:(PO lg k).wf):zF 120 #[zP b.q, .int lg k] w (zQ (.bool (Tb.find m k).isSome) w):=by obtain ⟨-, -, -, -, -, -, -, -, -, -,a,c⟩:=h.reads;have FI:=hT (Tb.tG h.tm k hk);clear h;go_enter func120,ntmps120;go_wp2_with fail;refine zh FI.out ?_;go_wp2;go_ret;exact ⟨rfl,rfl⟩
theorem ow (h:Sk w b p inv st m):zF 84 #[zP b.q] w (zJ (zI ((free m:Nat):Int)) w):=by obtain ⟨-, -, -, -, -, -, -, -, -, -,a,c⟩:=h.reads;have FI:=Tb.yc h.tm;rw [show m.length - (Tb.used m).length= free m from rfl]at FI;have FI:=hT FI;clear h;go_enter func84,ntmps84;go_wp2_with fail;refine zg FI.out λw1 hb=>?_;go_wp2;go_ret;exact ⟨rfl,hb⟩
theorem Ka (h:Sk w b p inv st m):zF 86 #[zP b.q] w (Tb.mF (Tb.all m) w):=by obtain ⟨-, -, -, -, -, -, -, -, -, -,f,g⟩:=h.reads;have FI:=hT (Tb.IW h.tm);clear h;go_enter func86,ntmps86;go_wp2_with fail;refine FI.out.mono ?_;rintro e w1 ⟨v,rfl,a,c,d⟩;go_wp2;go_ret;exact ⟨v,rfl,a,c,d⟩
def zd (p:Pa) (inv:Bool) (m:zN) (o:Int) (w:World) (e:Ending) (w':World):Prop:= zB w w'/\((inv= true/\e= zV (zM 0 0) (zI 162))\/(inv= false/\Tb.find m o= none/\e= zV (zM 0 0) (zI 161))\/ (inv= false/\∃i,Tb.find m o= some i/\e= zV (zM (p.data i:Int) p.g) (zI 0)))
theorem Kb (w W0:World) (h:w.alloc (zE 0 0 65)= W0):zB w W0/\W0.heap[w.heap.size]?= some (hV #[zI 0,zI 0] 65 (0,0))/\W0.heap.size= w.heap.size+1:=by subst h;exact ⟨zA,heap_alloc_new w _,by simp⟩
theorem Kc (h:Sk w b p inv st m) (hp:p.Ok) (hm:inv= false->m.length= p.N) (o:Int) (hk:(PO lg o).wf): zF 165 #[zP b.q, .int lg o] w (zd p inv m o w):=by obtain ⟨B,d⟩:=eX2 (w.alloc (hV #[.int lg 0, .int lg 0] 65));obtain ⟨k,j,c⟩:=Kb w B d;have f:=h.below k;have s:=hT (mN f);have FI:=hT (Tb.tG f.tm o hk);obtain ⟨c0,c1,c2, -,c4,c5, -, -, -, -,z,R⟩:=f.reads;obtain ⟨G,F,E⟩:=bR j;have Z:=hT j;have l:=hT k;have r:=hT f;cases inv with
 | true => clear h f k j c hm hp hk;go_enter func165,ntmps165;go_wp2_with fail;clear d;refine zh s.out ?_;go_wp2_with fail;refine bodyPost_ret (jC (p:=4) (u:=5) rfl _ _ w.heap.size _ _ _ rfl rfl (fX Z.out _ _)) rfl ⟨?_, .inl ⟨rfl,rfl⟩⟩;exact fY l.out (nm _) _ _
 | false => cases hf:Tb.find m o with
 | none => rw [hf]at FI;have t:=hT hf;clear h f k j c hm hp hk hf;go_enter func165,ntmps165;go_wp2_with fail;clear d;refine zh s.out ?_;go_wp2_with fail;refine zh FI.out ?_;go_wp2_with fail;refine bodyPost_ret (jC (p:=4) (u:=5) rfl _ _ w.heap.size _ _ _ rfl rfl (fX Z.out _ _)) rfl ⟨?_, .inr (.inl ⟨rfl,t.out,rfl⟩)⟩;exact fY l.out (nm _) _ _
 | some i =>
 rw [hf]at FI;have hi:i<p.N:=by have:=Tb.wC hf;rw [hm rfl]at this;exact this
 have D:=hT (λw1=>yB hp hi w1);have t:=hT hf;have C:=hT c;have NE:Hid (b.q≠w.heap.size):=hT (by have:=h.lt b.q (.inl rfl);omega);clear h f k j c hm hp hk hf hi;go_enter func165,ntmps165;go_wp2_with fail;clear d;refine zh s.out ?_;go_wp2_with fail;refine zh FI.out ?_;go_wp2_with fail;go_region_held3 (λw'=>w'.cell? (zD b.q 0)= some (.int lg p.a)/\w'.cell? (zD b.q 1)= some (.int lg p.n)/\w'.cell? (zD b.q 2)= some (.int lg p.g)/\w'.cell? (zD b.q 4)= some (.int lg p.st)/\w'.cell? (zD b.q 5)= some (.int lg p.ln)) (first|(refine ⟨?_,?_,?_,?_,?_⟩<;>assumption)|(refine ⟨?_,?_,?_,?_,?_⟩<;>(rw [yA NE.out];assumption))) (first
  | (go_at_call 215;refine zg (D.out _) λw3 hb=>?_;have v:=hT (gU hb);have x:=r.out.below v.out;obtain ⟨Q,P,O, -,M,L, -, -, -, -,y,K⟩:=x.reads;have e:=(v.out.block w.heap.size (by rw [C.out];omega)).trans Z.out;obtain ⟨J,I,H⟩:=bR e;have A:=hT e;clear x hb e));go_wp2_with fail;refine bodyPost_ret (jC (p:=4) (u:=5) rfl _ _ w.heap.size _ _ _ rfl rfl (fX A.out _ _)) rfl ⟨?_, .inr (.inr ⟨rfl,i,t.out,rfl⟩)⟩;exact fY (l.out.trans (v.out.mono l.out.size)) (nm _) _ _
theorem ze (h:Sk w b p inv st m) (hp:p.Ok):zF 208 #[zP b.q] w (zJ (zI p.pg) w):=by
 have c:=hT h;have s:=hT hp;have l:p.pg<=1048576:=by have:=hp.ag.N1;unfold Pa.pg Tb.a_;omega
 obtain ⟨n,o⟩:=eX1 p.pg;rw [<-o]at l⊢;have t:=hT o;clear h hp o;go_enter func208,ntmps208;go_wp2;go_loopw [3] (λv wr=>∃k:Nat,v= zI k/\k<=n/\Hid (zB w wr)) (λv _=>n+1 - (wo v).toNat);case atStart=>exact ⟨0,rfl,yb _,hT zR⟩
 case round=>
  obtain ⟨k,rfl,hk,e⟩:=hrel;have h1:=c.out.below e.out;obtain ⟨c0,c1,c2, -,c4,c5, -, -, -, -, -,E⟩:=h1.reads;have C:lg.wrap ((k:Int) +1)= ((k+1:Nat):Int):=by rw [rr _ (by omega)];rfl
  clear h1;by_cases D:k<n;·
   have r:=hT (λw1=>qq s.out (i:=k) (by have:=t.out;omega) w1);go_wp2_with fail;go_region_held3 (λw'=>w'.cell? (zD b.q 0)= some (zI p.a)/\w'.cell? (zD b.q 1)= some (zI p.n)/\w'.cell? (zD b.q 2)= some (zI p.g)/\w'.cell? (zD b.q 4)= some (zI p.st)/\w'.cell? (zD b.q 5)= some (zI p.ln)) (first|(refine ⟨?_,?_,?_,?_,?_⟩<;>assumption)|go_keep) (first
    | (go_at_call 243;refine zg (r.out _) λw1 hb1=>?_;have f:=hT (e.out.trans ((gU hb1).mono e.out.size));have d:=c.out.below f.out;obtain ⟨B,A,z, -,y,x, -, -, -, -,j,u⟩:=d.reads;clear d hb1));go_wp2_with fail;go_roundw;case rel=>exact ⟨k+1,rfl,by omega,f⟩
   case measure=>simp [wo];omega
  ·obtain rfl:k= n:=by omega
   have r:=hT (λw1=>IX s.out (i:=k) (by have:=t.out;omega) w1);go_wp2_with fail;go_region_held3 (λw'=>w'.cell? (zD b.q 0)= some (zI p.a)/\w'.cell? (zD b.q 1)= some (zI p.n)/\w'.cell? (zD b.q 2)= some (zI p.g)/\w'.cell? (zD b.q 4)= some (zI p.st)/\w'.cell? (zD b.q 5)= some (zI p.ln)) (first|(refine ⟨?_,?_,?_,?_,?_⟩<;>assumption)|go_keep) (first
    | (go_at_call 243;refine zg (r.out _) λw1 hb1=>?_;have f:=hT (e.out.trans ((gU hb1).mono e.out.size));have d:=c.out.below f.out;obtain ⟨B,A,z, -,y,x, -, -, -, -,j,u⟩:=d.reads;clear d hb1));go_wp2_with fail;go_ret;exact ⟨rfl,f.out⟩
theorem mO {o:Obj} (a:Below (w2.alloc o).drew.heap.size (w2.alloc o).drew w3):w3.heap[w2.heap.size]?= some o:=(a.block w2.heap.size (by show w2.heap.size< (w2.alloc o).heap.size;simp)).trans (heap_alloc_new w2 o)
theorem mP {o:Obj} (a:Below (w2.alloc o).heap.size (w2.alloc o) w3):w3.heap[w2.heap.size]?= some o:=(a.block w2.heap.size (by simp)).trans (heap_alloc_new w2 o)
theorem mQ {o:Obj} (hb:zB w2 w3) (h:w2.heap[g]?= some o):w3.heap[g]?= some o:=(hb.block g (DN.1 h).1).trans h
theorem Kd (x0 x1 x2 y0 y1 y2:Int) (w:World):(binOp .eql 188 (.agg #[zU x0,zI x1,zI x2, .bool false]) (.agg #[zU y0,zI y1,zI y2, .bool false])).run prog w= .ok (.bool ((x0 == y0) && ((x1 == y1) && (x2 == y2)))) w:=by cases h0:(x0 == y0)<;>cases h1:(x1 == y1)<;>cases h2:(x2 == y2)<;>simp [go_sem,h0,h1,h2]
theorem Ke {p:Tmp} (h:fn.results= #[.cell p 188]) (tmps:Array Value) (w:World) (g:Nat) (x y z u:Value) (hp:tmps.getD p undef= zP g) (a:w.heap[g]?= some (hV #[x,y,z,u] 188 (0,0))): (results fn tmps).run prog w= .ok (.agg #[x,y,z,u]) w:=by
 have b:tmps[p]?.getD undef= zP g:=by simpa using hp
 have c0:w.cell? (zD g 0)= some x:=zW a;have c1:w.cell? (zD g 1)= some y:=zW a;have c2:w.cell? (zD g 2)= some z:=zW a;have c3:w.cell? (zD g 3)= some u:=zW a;simp [results,h,b,asAddr,Ty,go_sem,c0,c1,c2,c3]
variable{P:Program}{ops:Array Oper}{Q:Exit→Act→World→Prop}
theorem pass {md:Region.Mode} {d:Nat} {oi:Oper} {fuel:Nat} {listed:Array Bool} {a:Act} (hi:ops[i]?= some oi) (hd:oi.dst= some d) (b:Region.noSelect ops) (f:Region.free md ops listed i) (e:(Region.ready md ops listed).contains i) (j:∀c a w,Q (.panic c) (a.put oi.dst undef) w->Q (.panic c) a w) (hw:Region.wanted oi (yielded ops a.tmps)= false) (g:S w) (h:wpAnyH P md ops Q S fuel (listed.setIfInBounds i true) (a.put (some d) undef) w):wpAnyH P md ops Q S (fuel+1) listed a w:=by refine wpAnyH_take hi b f e j (.inr ⟨hw,rfl⟩) g ?_;rw [hd];exact h
variable{o:ae.Ob}
theorem zl (h:ae.Dk w o st) (hd:st.dead= false) (a:st.P.length<=1099511627776) {k:Nat} (hk:k<st.S.length): zF 98 #[zP o.p,zI k,zI 1] w λe w'=>e= zV (.string (Om.B (Dm.one st k))) (zI 0)/\zB w w':=by
 have h1:=ae.xZ h k 1 hd (by omega) a;have e:Dm.span st k 1= Dm.one st k:=by simp [Dm.span]
 rw [e]at h1;exact h1
theorem zm (w W:World) (x0 x1 x2 x3:Value) (h:w.alloc (hV #[x0,x1,x2,x3] 188)= W):zB w W/\W.heap[w.heap.size]?= some (hV #[x0,x1,x2,x3] 188 (0,0))/\W.heap.size= w.heap.size+1:=by subst h;exact ⟨zA,heap_alloc_new w _,by simp⟩
theorem uo (h:q<g) (x y z u:Value) (j:Nat):((((w.setCell ⟨g,0,none⟩ x).setCell ⟨g,1,none⟩ y).setCell ⟨g,2,none⟩ z).setCell ⟨g,3,none⟩ u).cell? (zD q j)= w.cell? (zD q j):=by
 have a:q≠g:=by omega
 unfold World.cell?;rw [show (⟨q,j,none⟩:Addr).block= q from rfl,L2 _ ⟨g,3,none⟩ _ _ a,L2 _ ⟨g,2,none⟩ _ _ a,L2 _ ⟨g,1,none⟩ _ _ a,L2 _ ⟨g,0,none⟩ _ _ a]
theorem qG (h:q<w.heap.size) (o:Obj) (j:Nat):(w.alloc o).cell? (zD q j)= w.cell? (zD q j):=TZ (a:=(zD q j)) (PC _ _ _ h)
theorem Kt (w:World) (p:Addr):w.drew.cell? p= w.cell? p:=rfl
theorem zn {W0 X:World} (hb:zB X w3) (h:zB W0 X):zB W0 w3:=h.trans (hb.mono h.size)
structure uq (W0 Wn:World) (g:Nat) (x0 x1 x2 x3:Value):Prop where
 aL:zB W0 Wn
 row:Wn.heap[g]?= some (hV #[x0,x1,x2,x3] 188 (0,0))
 new:W0.heap.size<=g
theorem Ku {W0:World} (h:zB W0 w3) (x0 x1 x2 x3:Value):uq W0 (w3.alloc (hV #[x0,x1,x2,x3] 188)) w3.heap.size x0 x1 x2 x3:= ⟨h.alloc h.size _,heap_alloc_new w3 _,h.size⟩
theorem Kv {W0:World} {z0 z1 z2 z3:Value} (h:zB W0 w3) (hn:w3.heap[g]?= some (hV #[z0,z1,z2,z3] 188 (0,0))) (hg:W0.heap.size<=g) (x0 x1 x2 x3:Value): uq W0 ((((w3.setCell ⟨g,0,none⟩ x0).setCell ⟨g,1,none⟩ x1).setCell ⟨g,2,none⟩ x2).setCell ⟨g,3,none⟩ x3) g x0 x1 x2 x3:= ⟨dd h hg _ _ _ _,dc hn _ _ _ _,hg⟩
theorem qH {W:World} {a b c d:Value} {t:TypeId} (h:W.heap[g]?= some (hV #[a,b,c,d] t (0,0))): W.cell? (zD g 0)= some a/\W.cell? (zD g 1)= some b/\W.cell? (zD g 2)= some c/\W.cell? (zD g 3)= some d/\∀j,W.frozen? (zD g j)= false:= ⟨zW h,zW h,zW h,zW h,λj=>frozen_of_row (j:=j) _ _ _ _ h⟩
theorem Kw (h:Sk w b p false st m) (hp:p.Ok) (hd:st.dead= false) (hl:st.S.length= p.a) (hP:st.P.length≤1099511627776):
    zF 207 #[zP b.q] w fun e w'=>zB w w'∧
      ((ja p (Dm.one st p.st)= true∧e= nf (.agg #[zU p.gen,zI p.g,zI p.N, .bool (Hm.d_ (Dm.one st p.st))]))∨(ja p (Dm.one st p.st)= false∧e= aB 165)):=by
  obtain ⟨F,V⟩:=eX2 (w.alloc (hV #[zU 0,zI 0,zI 0, .bool false] 188))
  obtain ⟨hB,hz,Q⟩:=zm w F _ _ _ _ V
  have W:=h.below hB
  have T:p.st<st.S.length:=by have:=hp.high;have:=hp.ag.size;omega
  have RD:=hT (fun w1 (r:zB F w1)=>zl (W.below r).dk hd hP T)
  obtain ⟨s,hs⟩:=eX1 (Dm.one st p.st)
  rw [←hs]at RD⊢
  have MU:=hT (fun w1=>eL (.string (Om.B s)) w1)
  obtain ⟨G,hG⟩:=eX1 (Hm.aH s)
  obtain ⟨C,hC⟩:=eX1 (Hm.fT s)
  obtain ⟨P,E⟩:=eX1 (Hm.fU s)
  obtain ⟨Bv,n⟩:=eX1 (Hm.d_ s)
  obtain ⟨x,hx⟩:=eX1 (Hm.av s)
  have DE:Hid (∀w1,zF 242 #[.string (Om.B s)] w1 fun e w'=>e= zV (.agg #[zU G,zI C,zI P, .bool Bv]) (zI x)∧zB w1 w'):=hT fun w1=>(Ks s w1).mono fun e w' ⟨e1,e2⟩=>⟨by rw [e1,hG,hC,E,n,hx];rfl,e2⟩
  rw [←n]
  have I:=hT W
  have HB:=hT hB
  have HZ:=hT hz
  obtain ⟨-, -, -,c3,c4, -, -, -, -, -, -,cf⟩:=W.reads
  have SZ:=hT Q
  have H:=hT (W.lt b.q (.inl rfl))
  clear h hp hd hl hP T hB Q hz W
  have J:=hT (UC hG (UC hC (UC E (UC n hx))))
  clear hG hC E n hx hs
  go_enter func207,ntmps207
  go_wp2_with fail
  clear V
  go_upto_region 1 with fail
  go_cut [3,4] (fun s3 s4 wx=>∃g,s3= zP g∧s4= zI x∧Hid (uq F wx g (zU G) (zI C) (zI P) (.bool Bv)))
  case first=>
    go_region_held3 (fun w'=>w'.cell? (zD b.q 3)= some (zP b.d.p)∧w'.cell? (zD b.q 4)= some (zI p.st))
      (first
        | (refine ⟨?_,?_⟩<;>(rw [uo (g:=w3.heap.size) (ti H.out L.out.size),qG (w:=w3) (ti H.out L.out.size)];assumption))
        | (refine ⟨?_,?_⟩<;>(rw [uo (g:=w1.heap.size) (ti H.out M.out.size)];assumption))
        | (refine ⟨?_,?_⟩<;>(rw [uo (g:=F.heap.size) H.out];assumption))
        | (refine ⟨?_,?_⟩<;>(rw [qG (w:=w3) (ti H.out L.out.size)];assumption))
        | (refine ⟨?_,?_⟩<;>(rw [qG (w:=w1) (ti H.out M.out.size)];assumption))
        | (refine ⟨?_,?_⟩<;>(rw [Kt,qG (w:=F) H.out];assumption))
        | (refine ⟨?_,?_⟩<;>assumption))
      (first
        | (go_at_call 242;refine zg (DE.out _) fun w3 r=>?_;have L:Hid (zB F w3):=hT (zn r (by first|exact M.out|exact M.out.alloc M.out.size _));have k3:=I.out.below L.out;obtain ⟨-, -, -,u3,u4, -, -, -, -, -, -,uf⟩:=k3.reads;first|(have N3:=hT (mP r);obtain ⟨aw,ao,af,ad,ab⟩:=kB N3.out)|(have N3:=hT (mQ r N1.out);obtain ⟨aw,ao,af,ad,ab⟩:=kB N3.out)|skip)
        | (go_at_call 174;refine zh (MU.out _) ?_)
        | (go_at_call 98;refine zg (RD.out _ (by first|exact zR.drew|exact zA.drew)) fun w1 r=>?_;have M:Hid (zB F w1):=hT (zn r (by first|exact zR.drew|exact zA.drew));have k1:=I.out.below M.out;obtain ⟨-, -, -,q3,q4, -, -, -, -, -, -,qf⟩:=k1.reads;first|(have N1:=hT (mO r);obtain ⟨bl,bg,bf,bb,ba⟩:=kB N1.out)|skip))
    all_goals
      go_wp2_with fail
      go_meet
      first
      | exact ⟨_,rfl,rfl,hT (Kv L.out N3.out (by first|exact nm _|exact M.out.size) _ _ _ _)⟩
      | exact ⟨_,rfl,rfl,hT (Ku L.out _ _ _ _)⟩
      | exact ⟨_,rfl,rfl,hT (hspot_a L.out _ _ _ _ _ _ _ _)⟩
  case rest=>
  obtain ⟨g,rfl,rfl,O⟩:=hcut
  obtain ⟨j,U⟩:=eX2 wc
  rw [U]at O⊢
  clear U c3 c4 cf RD MU DE
  obtain ⟨y0,y1,y2,y3,yf⟩:=qH O.out.row
  go_upto_region 4 with fail
  obtain ⟨W5,A⟩:=eX2 (j.alloc (hV #[zU G,zI C,zI P, .bool false] 188))
  rw [A]
  obtain ⟨z,R, -⟩:=zm j W5 _ _ _ _ A
  obtain ⟨v0,v1,v2,v3,vf⟩:=qH R
  have o:=O.out.aL.trans (z.mono O.out.aL.size)
  have k5:=I.out.below o
  obtain ⟨-, -, -, -, -, -,r6,r7,r8,r9, -,rf⟩:=k5.reads
  obtain ⟨u0,u1,u2,u3,uf⟩:=qH ((z.block g (ae.lt_of_heap O.out.row)).trans O.out.row)
  have t:=(o.block w.heap.size (by rw [SZ.out];omega)).trans HZ.out
  obtain ⟨z0,z1,z2,z3,zf⟩:=qH t
  have Z5:=hT t
  have FB:=zT HB o
  clear A z R o k5 t y0 y1 y2 y3 yf
  have Z:=hT (fun w1=>tw w1)
  have NY:=hT (fun w1=>iI w1)
  unfold aB at Z
  by_cases k:x= 0
  · subst k
    have EQ:=fun w1=>Kd (G:Int) (C:Int) (P:Int) (p.gen:Int) (p.g:Int) (p.N:Int) w1
    by_cases c:G= p.gen∧C= p.g∧P= p.N
    · obtain ⟨y,v,u⟩:=c
      have f:Hid (ja p s= true):=hT (by
        obtain ⟨h1,h2,h3,h4,Y⟩:=J.out
        exact pW.2 ⟨Y.symm,by omega,by omega,by omega⟩)
      have X:∀w1,(binOp .eql 188 (.agg #[zU G,zI C,zI P, .bool false]) (.agg #[zU p.gen,zI p.g,zI p.N, .bool false])).run prog w1= .ok (.bool true) w1:=fun w1=>by rw [EQ w1,y,v,u];simp
      have HV:Hid (Value.agg #[zU G,zI C,zI P, .bool Bv]= .agg #[zU p.gen,zI p.g,zI p.N, .bool Bv]):=hT (by rw [y,v,u])
      clear EQ y v u Z
      go_region_held3 (fun w'=>w'.cell? (zz j 0)= some (zU G)∧w'.cell? (zz j 1)= some (zI C)∧w'.cell? (zz j 2)= some (zI P)∧w'.cell? (zz j 3)= some (.bool false)∧w'.cell? (zD b.q 6)= some (zU p.gen)∧w'.cell? (zD b.q 7)= some (zI p.g)∧w'.cell? (zD b.q 8)= some (zI p.N)∧w'.cell? (zD b.q 9)= some (.bool false))
        (first|(refine ⟨?_,?_,?_,?_,?_,?_,?_,?_⟩<;>assumption)|go_keep)
        (first|(go_at_call 211;refine zh (NY.out _) ?_))
      clear X v0 v1 v2 v3 vf r6 r7 r8 r9 rf
      go_wp2_with fail
      refine bodyPost_ret (Ke (p:=2) rfl _ _ w.heap.size _ _ _ _ rfl (dc (w:=W5.drew) Z5.out _ _ _ _)) rfl ⟨dd FB.out.drew (nm _) _ _ _ _, .inl ⟨f.out,?_⟩⟩
      rw [HV.out]
    · have f:Hid (ja p s= false):=hT (by
        obtain ⟨h1,h2,h3,h4,Y⟩:=J.out
        rw [←U2,pW]
        rintro ⟨q1,q2,q3,q4⟩
        exact c ⟨by omega,by omega,by omega⟩)
      have X:∀w1,(binOp .eql 188 (.agg #[zU G,zI C,zI P, .bool false]) (.agg #[zU p.gen,zI p.g,zI p.N, .bool false])).run prog w1= .ok (.bool false) w1:=fun w1=>by
        rw [EQ w1]
        have:((G:Int) == (p.gen:Int) && ((C:Int) == (p.g:Int) && (P:Int) == (p.N:Int)))= false:=by
          rw [←U2,N6,N6,beq_iff_eq,beq_iff_eq,beq_iff_eq]
          rintro ⟨q1,q2,q3⟩
          exact c ⟨by omega,by omega,by omega⟩
        rw [this]
      clear EQ c NY
      go_region_held (fun w'=>w'.cell? (zz j 0)= some (zU G)∧w'.cell? (zz j 1)= some (zI C)∧w'.cell? (zz j 2)= some (zI P)∧w'.cell? (zz j 3)= some (.bool false)∧w'.cell? (zD b.q 6)= some (zU p.gen)∧w'.cell? (zD b.q 7)= some (zI p.g)∧w'.cell? (zD b.q 8)= some (zI p.N)∧w'.cell? (zD b.q 9)= some (.bool false))
        (first|(refine ⟨?_,?_,?_,?_,?_,?_,?_,?_⟩<;>assumption)|go_keep)
        (first|(go_at_call 211;refine zh (Z.out _) ?_;refine T7 fun hn=>?_;have l:=hn ⟨rfl,FB.out.drew, .inr ⟨f.out,rfl⟩⟩;clear hn;refine jg (by assumption) l {tmps:=#[],defers:= []} W5.drew ?_))
      exact l.elim
  · have bm:(x == 0)= false:=by simpa using k
    have f:Hid (ja p s= false):=hT (by
      obtain ⟨h1,h2,h3,h4,Y⟩:=J.out
      rw [←U2,pW]
      rintro ⟨q1,q2,q3,q4⟩
      exact k (Y.trans q1))
    clear k NY
    refine wp_region_held_drew (S:=fun _=>True) (by kernel_rfl) trivial (fun hHeld=>?_)
    refine Skip.take (i:=0) 25 (zI x) rfl rfl (by kernel_rfl) (by kernel_rfl) (by kernel_rfl) (fun _ _ _ h=>h) (by rfl) ?_ trivial ?_
    · intro w' D
      go_simp
    try simp only [OW,Tz,Tn,To]
    refine Skip.take (i:=1) 26 (.bool false) rfl rfl (by kernel_rfl) (by kernel_rfl) (by kernel_rfl) (fun _ _ _ h=>h) (by rfl) ?_ trivial ?_
    · intro w' D
      go_simp
    try simp only [OW,Tz,Tn,To]
    refine Skip.take (i:=2) 27 (.bool false) rfl rfl (by kernel_rfl) (by kernel_rfl) (by kernel_rfl) (fun _ _ _ h=>h) (by rfl) ?_ trivial ?_
    · intro w' D
      go_simp
    try simp only [OW,Tz,Tn,To]
    refine pass (i:=3) (d:=28) rfl rfl (by kernel_rfl) (by kernel_rfl) (by kernel_rfl) (fun _ _ _ h=>h) (by rfl) trivial ?_
    try simp only [OW,Tz,Tn,To]
    refine pass (i:=4) (d:=29) rfl rfl (by kernel_rfl) (by kernel_rfl) (by kernel_rfl) (fun _ _ _ h=>h) (by rfl) trivial ?_
    try simp only [OW,Tz,Tn,To]
    refine pass (i:=5) (d:=30) rfl rfl (by kernel_rfl) (by kernel_rfl) (by kernel_rfl) (fun _ _ _ h=>h) (by rfl) trivial ?_
    try simp only [OW,Tz,Tn,To]
    refine pass (i:=6) (d:=31) rfl rfl (by kernel_rfl) (by kernel_rfl) (by kernel_rfl) (fun _ _ _ h=>h) (by rfl) trivial ?_
    try simp only [OW,Tz,Tn,To]
    refine pass (i:=7) (d:=32) rfl rfl (by kernel_rfl) (by kernel_rfl) (by kernel_rfl) (fun _ _ _ h=>h) (by rfl) trivial ?_
    try simp only [OW,Tz,Tn,To]
    refine pass (i:=8) (d:=33) rfl rfl (by kernel_rfl) (by kernel_rfl) (by kernel_rfl) (fun _ _ _ h=>h) (by rfl) trivial ?_
    try simp only [OW,Tz,Tn,To]
    refine Skip.take (i:=9) 34 (.bool false) rfl rfl (by kernel_rfl) (by kernel_rfl) (by kernel_rfl) (fun _ _ _ h=>h) (by rfl) ?_ trivial ?_
    · intro w' D
      go_simp
    try simp only [OW,Tz,Tn,To]
    refine wpAnyH_ready (rs:= [10]) (by kernel_rfl) (by simp) ?_
    refine AllReadyH.cons rfl (fun K hK=>?_) AllReadyH.nil
    go_simp
    go_at_call 211
    refine zh (Z.out _) ?_
    refine T7 fun hn=>?_
    have l:=hn ⟨rfl,FB.out.drew, .inr ⟨f.out,rfl⟩⟩
    exact l.elim
def qI (p:Pa) (s:zL) (w:World) (e:Ending) (w':World):Prop:=zB w w'/\ ((gR p s= true/\∃a c,e= nf (.slice a (Pm.da s).length c)/\Tb.Rd w' a (Pm.da s))\/(gR p s= false/\e= aB 165))
theorem KD {l:zN} (h:Row w w.heap.size a n (bz l)) (f:n= l.length):Tb.Rd w a l:=λhne=>by have:=UO.2 hne;obtain ⟨b,off,e,d,c⟩:=h (by omega);refine ⟨b,off,e,d,λi x hx=>?_⟩;have hi:=(C2.1 hx).1;rw [c i (by omega)];unfold bz;rw [FU,hx];rfl
theorem KE (h:Sk w b p inv st m) (hp:p.Ok) (hd:st.dead= false) (hl:st.S.length= p.a) (N:st.P.length<=1099511627776) {i:Nat} (hi:i<p.pg): zF 209 #[zP b.q,zI i] w (qI p (Dm.one st (p.ar i)) w):=by
 have PG:=hT (λw1=>qq hp hi w1);have MI:=hT (λw1=>jd (p.ar i:Int) w1);have o:p.ar i<st.S.length:=by have:=Pa.kY hp hi;have:=hp.high;omega
 have Q:Hid (∀w1,zB w w1->_):=hT (λw1 f=>zl (h.below f).dk hd N o);obtain ⟨s,K⟩:=eX1 (Dm.one st (p.ar i));rw [<-K]at Q⊢;have MU:=hT (λw1=>eL (.string (Om.B s)) w1);have l:∀w1,zF 244 #[.string (Om.B s)] w1 λe w'=>∃a c,e= nf (CE #[zU (Pm.aH s:Int), .slice a (Pm.da s).length c,zI (Pm.av s)])/\Tb.Rd w' a (Pm.da s)/\zB w1 w':=λw1=>(KC s w1).mono λe w' ⟨a,n,c,h1,u,h3,h4⟩=>⟨a,c,by rw [h1,u],KD h3 u,h4⟩;obtain ⟨G,E⟩:=eX1 (Pm.aH s);obtain ⟨x,A⟩:=eX1 (Pm.av s);obtain ⟨L,D⟩:=eX1 (Pm.da s);obtain ⟨n,C⟩:=eX1 L.length;rw [<-E,<-A,<-D,<-C]at l;have DE:=hT l;have r:=hT h;obtain ⟨c0,c1,c2, -,c4,c5, -, -, -, -, -,cf⟩:=h.reads;have k:=hT (UC E A);unfold qI;rw [<-D,<-C];have v:=hT (λw1=>tw w1);have F:=hT (λw1=>iI w1);unfold aB at v⊢;clear h hp hd hl N o K hi E A D C l;go_enter func209,ntmps209;go_wp2_with fail;go_region_held3 (λw'=>w'.cell? (zD b.q 0)= some (zI p.a)/\w'.cell? (zD b.q 1)= some (zI p.n)/\w'.cell? (zD b.q 2)= some (zI p.g)/\w'.cell? (zD b.q 4)= some (zI p.st)/\w'.cell? (zD b.q 5)= some (zI p.ln)) (first|(refine ⟨?_,?_,?_,?_,?_⟩<;>assumption)|go_keep) (first
  | (go_at_call 243;refine zg (PG.out _) λw1 f=>?_;have H:=hT (gU f);have J:=r.out.below H.out;obtain ⟨Z,Y,X,W,V,U,T, -, -, -,z,R⟩:=J.reads;clear J f)
  | (go_at_call 220;refine zh (MI.out _) ?_));clear c0 c1 c2 c4 c5 cf Z Y X V U;go_wp2_with fail;refine zg (Q.out _ H.out) λw2 f=>?_;have B2:=zT H f;clear f W T z R;go_wp2_with fail;refine zh (MU.out _) ?_;go_wp2_with fail;refine (DE.out _).mono ?_;rintro e w4 ⟨a,c,rfl,M,f⟩;have y:=zT B2 f;have HR:=hT M;have I:=r.out.below y.out;obtain ⟨-, -, -, -, -, -,r6, -, -, -, -,rf⟩:=I.reads;clear f M I;by_cases j:x= 0;·
  subst j;by_cases t:G= p.gen;·
   have d:Hid (gR p s= true):=hT (mq.2 ⟨k.out.2.symm,by have:=k.out.1;omega⟩);have O:((G:Int) == (p.gen:Int)):=by rw [t];simp
   clear t v;go_wp2_with fail;refine zh (F.out _) ?_;go_wp2_with fail;go_ret;exact ⟨y.out, .inl ⟨d.out,a,c,rfl,HR.out⟩⟩
  ·have d:Hid (gR p s= false):=hT (by rw [<-U2,mq];rintro ⟨h1,u⟩;exact t (by have:=k.out.1;omega));have O:((G:Int) == (p.gen:Int))= false:=by rw [beq_eq_false_iff_ne];omega
   clear t F;go_wp2_with fail;refine zh (v.out _) ?_;go_wp2_with fail;exact ⟨rfl,y.out, .inr ⟨d.out,rfl⟩⟩
 ·have d:Hid (gR p s= false):=hT (by rw [<-U2,mq];rintro ⟨h1,u⟩;exact j (k.out.2.trans h1));have O:(x == 0)= false:=by simpa using j
  clear j F;go_wp2_with fail;refine zh (v.out _) ?_;go_wp2_with fail;exact ⟨rfl,y.out, .inr ⟨d.out,rfl⟩⟩
theorem KF {rest:List Oper} {o:Oper} {a:Act} (p:o.guard= none) (s x:Operand) (t:TypeId) (z:prog.underlying t= some (.slice 3)) (C:o.op= .call {callee:= .builtin .append,args:=#[s,x],argTypes:=#[t,t]}) (v:Value) (n:Nat) (l:zN) (A:a.eval s= v) (H:n<=1099511627776) (d:w.ownsRow 0 3 1 v n (Tb.ag l)) (src:Option Addr) (m c:Nat) (ls:zN) (hm:m= ls.length) (E:0<m) (D:m<=1048576) (r:a.eval x= .slice src m c) (B:Tb.Rd w src ls) (h:∀v' w',w'.ownsRow 0 3 1 v' (n+m) (Tb.ag (l ++ ls))->ae.Fr (λk=>v.ownBlock= some k) w w'->(∀k,v'.ownBlock= some k->v.ownBlock= some k\/w.heap.size<=k)->wpList prog ops Q rest (a.put o.dst v') w'):wpList prog ops Q (o :: rest) a w:=by
 obtain ⟨q,hi,i,g,f⟩:=info_parts Tb.jD;obtain ⟨b,off,rfl,I,G⟩:=B (by intro e;rw [e]at hm;simp at hm;omega);refine ae.nZ p s x t C 3 q _ 1 8 z hi i g f rfl (by decide) v n (Tb.ag l) A d ⟨b,off,none⟩ m c (Tb.ag ls) r (by unfold Tb.ag;rw [PN,hm,Nat.mul_one]) (λj u hj=>?_) (λu hu=>?_) (by unfold maxLen;omega) (by omega) λv' w' h1 h2 h3=>?_;· unfold Tb.ag at hj;rw [RI]at hj;cases hy:ls[j]? with
  | none=>rw [hy]at hj;cases hj
  | some y => rw [hy]at hj;injection hj with hj;rw [<-hj,show (⟨b,off,none⟩:Addr).add j= ⟨b,off+j,none⟩ from by unfold Addr.add;split<;>simp_all];exact G j y hy
 ·unfold Tb.ag at hu;obtain ⟨y,_,rfl⟩:=Tp.1 hu;rfl
 ·refine h v' w' (by rw [Tb.ag,R0];exact h1) (ae.Fr.jz (F:=λk=>v.ownBlock= some k) h2 λk e=>e) λk hk=>?_;rcases h3 with e|e;· exact .inl (by rw [<-e];exact hk)
  ·right;rw [hk]at e;injection e with e;omega
open Go.RowKit
theorem Sk.ur (h:Sk w b p inv st m) (x:Bool):Sk (w.setCell ⟨b.q,9,none⟩ (.bool x)) b p x st m/\Sp b b w (w.setCell ⟨b.q,9,none⟩ (.bool x)):=by have a:ae.Fr (λk=>k= b.q) w (w.setCell ⟨b.q,9,none⟩ (.bool x)):=ae.Fr.setCell (F:=λk=>k= b.q) (ae.Fr.refl _ w) ⟨b.q,9,none⟩ rfl _;refine ⟨⟨?_,h.dk.keep a λk hk e=>h.qd (e▸hk),h.tm.keep a λk hk e=>h.qt (e▸hk),h.dt,h.qd,h.qt⟩,⟨a.mono λk _ e=> .inl e,λ_ h=> .inl h,rfl,rfl,λ_ h=> .inl h⟩⟩;rw [heap_setCell_same _ _ _ _ _ _ h.head];rfl
theorem Sk.uu {w0:World} {m':zN} (h:Sk w0 b p inv st m) {o:Tb.Ob} (f:Tb.Tm w o m') (a:∀k,o.fp k->w0.heap.size<=k) (d:zB w0 w): Sk (w.setCell ⟨b.q,10,none⟩ (zP o.p)) {b with t:=o} p inv st m'/\Sp b {b with t:=o} w0 (w.setCell ⟨b.q,10,none⟩ (zP o.p)):=by
 have h1:=h.below d;have c:ae.Fr (λk=>k= b.q) w (w.setCell ⟨b.q,10,none⟩ (zP o.p)):=ae.Fr.setCell (F:=λk=>k= b.q) (ae.Fr.refl _ w) ⟨b.q,10,none⟩ rfl _;have g:=h.lt b.q (.inl rfl);refine ⟨⟨?_,h1.dk.keep c λk hk e=>h.qd (e▸hk),f.keep c λk hk e=>?_,λk hk ho=>?_,h.qd,λho=>?_⟩,⟨((ae.Fr.ax d:ae.Fr b.fp w0 w).trans c λk hk e=> .inl e),λk hk=>?_,rfl,rfl,λ_ h=> .inl h⟩⟩;· rw [heap_setCell_same _ _ _ _ _ _ h1.head];rfl
 ·have:=a k hk;omega
 ·have:=a k ho;have:=h.lt k (.inr (.inl hk));omega
 ·have:w0.heap.size<=b.q:=a _ ho;omega
 ·rcases hk with hk|hk|hk;· exact .inl (.inl hk)
  ·exact .inl (.inr (.inl hk))
  ·exact .inr (a k hk)
theorem KG (st:Dm.St) (A:List Op) (o o':Op) (h:(aa st A).2= 0): ((step (aa st A).1 o).2≠0->aa st (A ++ [o] ++ [o'])= step (aa st A).1 o)/\((step (aa st A).1 o).2= 0->aa st (A ++ [o] ++ [o'])= step (step (aa st A).1 o).1 o'):=by
 constructor;· intro a;rw [NR];exact qu h a
 ·intro a;have e:=mI (o:=o) h;rw [mI (o:=o') (by rw [e];exact a),e]
theorem zo {w0:World} {b1:Bk} (h:Sk w1 b1 p inv (aa st A).1 m) (s:Sp b b1 w0 w1) (hp:p.Ok) (k:(aa st A).2= 0) (o:(aa st A).1.P.length<=274877906944): ∃ x, zF 213 #[xb (some ⟨b.q, 0, none⟩)] w1 λe w2 => e = aP x /\ (x≠0->aP (aa st (A ++ [cU p inv] ++ [.fl])).2= aP x/\ay b p inv (aa st (A ++ [cU p inv] ++ [.fl])).1 m w0 w2)/\ (x= 0->∃y,zF 214 #[zP b.q] w2 λe w3=>e= aP y/\aP (aa st (A ++ [cU p inv] ++ [.fl])).2= aP y/\ay b p inv (aa st (A ++ [cU p inv] ++ [.fl])).1 m w0 w3):=by
 obtain ⟨i,f⟩:=KG st A (cU p inv) .fl k;have n:=sy h.dk.ok (cU p inv);have l:sec (cU p inv)= 1:=by show (Hm.ah p.gen (p.g:Int) (p.N:Int) inv).length / 64= 1;rw [Hm.bD]
 have c:=I4 h hp (by omega);rw [s.q]at c;refine ⟨(step (aa st A).1 (cU p inv)).2,c.mono ?_⟩;rintro e w2 ⟨rfl,hw⟩;refine ⟨rfl,λhx=>?_,λhx=>?_⟩;· rw [i hx];exact ⟨rfl,ay.trans s hw⟩
 ·obtain ⟨b2,j,s2⟩:=hw;have d:=tP j (by omega);rw [s2.q,s.q]at d;rw [f hx];refine ⟨(step (step (aa st A).1 (cU p inv)).1 .fl).2,d.mono ?_⟩;rintro e w3 ⟨rfl,a⟩;exact ⟨rfl,rfl,ay.trans (s.trans s2) a⟩
theorem KH (h:Sk w b p inv st m) (hp:p.Ok) (G:st.P.length<=274877906944): zF 178 #[zP b.q] w λe w'=>e= aP (aa st (bY p)).2/\ay b p true (aa st (bY p)).1 [] w w':=by
 obtain ⟨v,n⟩:=eX2 (w.setCell ⟨b.q,9,none⟩ (.bool true));obtain ⟨c,z⟩:=h.ur true;rw [n]at c z;obtain ⟨-, -, -, -, -, -, -, -, -,L, -,B⟩:=h.reads;have I:=hT (Tb.je 0 v);have J:Hid (∀w1 o,Tb.Tm w1 o (vw (Tb.iK 0) (-1))->(∀k,o.fp k->v.heap.size<=k)->zB v w1->∀l,w1.setCell ⟨b.q,10,none⟩ (zP o.p)= l->∃b1,Sk l b1 p true st []/\Sp b b1 w l):=hT λw1 o u i j l a=>by obtain ⟨h1,s1⟩:=c.uu u i j;rw [a]at h1 s1;exact ⟨_,h1,z.trans s1⟩
 have s:Hid (p.Ok/\st.P.length<=274877906944):=hT ⟨hp,G⟩;have D:∀w1,zB v w1->w1.cell? (zD b.q 10)= some (zP b.t.p)/\w1.frozen? (zD b.q 10)= false:=λw1 j=>by obtain ⟨-, -, -, -, -, -, -, -, -, -,C,B⟩:=(c.below j).reads;exact ⟨C,B 10⟩
 have H:=hT D;clear h hp G c z D;show Calls _ _ _ _ λe w'=>e= aP (aa st ([] ++ [cU p true] ++ [.fl])).2/\ay b p true (aa st ([] ++ [cU p true] ++ [.fl])).1 [] w w';go_enter func178,ntmps178;go_wp2_with fail;refine I.out.mono ?_;rintro e w1 ⟨⟨o,rfl,u,i⟩,j⟩;obtain ⟨K,N⟩:=H.out w1 j;obtain ⟨l,a⟩:=eX2 (w1.setCell ⟨b.q,10,none⟩ (zP o.p));obtain ⟨b1,E,s1⟩:=J.out w1 o u i j l a;obtain ⟨x,f⟩:=zo (A:= []) E s1 s.out.1 rfl s.out.2;clear n L B u i j J E s1 H I;by_cases c:x= 0;·
  subst c;rw [cF]at f;have f:=hT f;go_wp2_with fail;clear a;refine f.out.mono ?_;rintro e w2 ⟨rfl, -,F⟩;obtain ⟨y,d⟩:=F (by first|trivial|rfl);clear F;by_cases h1:y= 0;· subst h1;rw [cF]at d;have d:=hT d;go_wp2_with fail;refine d.out.mono ?_;rintro e w3 ⟨rfl,r,hw⟩;have g:=hT (⟨r,hw⟩:_/\_);clear r hw;go_wp2_with fail;go_end0;exact ⟨g.out.1.symm,g.out.2⟩
  ·rw [aX h1]at d;have d:=hT d;unfold aB at d;clear h1;go_wp2_with fail;refine d.out.mono ?_;rintro e w3 ⟨rfl,r,hw⟩;have g:=hT (⟨r,hw⟩:_/\_);clear r hw;go_wp2_with fail;exact ⟨rfl,g.out.1.symm,g.out.2⟩
 ·rw [aX c]at f;have f:=hT f;have M:=hT c;unfold aB at f;clear c;go_wp2_with fail;clear a;refine f.out.mono ?_;rintro e w2 ⟨rfl,i, -⟩;have g:=hT (i M.out);clear i;go_wp2_with fail;exact ⟨rfl,g.out.1.symm,g.out.2⟩
theorem KI (h:Sk w b p inv st m) (hp:p.Ok) (hm:m.length= p.N) (D:st.P.length<=137438953472): zF 162 #[zP b.q] w λe w'=>e= aP (aa st ((aQ p m (MR p.pg) ++ [cU p inv]) ++ [.fl])).2/\ay b p inv (aa st ((aQ p m (MR p.pg) ++ [cU p inv]) ++ [.fl])).1 m w w':=by
 have K:=hT (ze h hp);have J:p.pg<=1048576:=by have:=hp.ag.N1;unfold Pa.pg Tb.a_;omega
 have F:Hid (p.Ok/\m.length= p.N/\st.P.length<=137438953472/\Dm.Ok st/\Sk w b p inv st m):=hT ⟨hp,hm,D,h.dk.ok,h⟩;obtain ⟨cs,A⟩:=eX1 (MR p.pg);rw [<-A];obtain ⟨n,C⟩:=eX1 p.pg;rw [<-C]at K J;have L:=hT C;have G:=hT A;clear h hp hm D C A;go_enter func162,ntmps162;go_wp2_with fail;refine zg K.out λw1 hb=>?_;have U:Hid (iN w b p inv st m cs 0 w1):=hT ⟨by rw [Tj];rfl,by rw [Tj];exact (ay.refl F.out.2.2.2.2).then hb⟩;clear hb K;go_wp2_with fail;go_loopw [5] (λv wr=>∃a:Nat,v= zI a/\a<=n/\Hid (iN w b p inv st m cs a wr)) (λv _=>n - (wo v).toNat);case atStart=>exact ⟨0,rfl,yb _,U⟩
 case round=>
  obtain ⟨a,rfl,T,g⟩:=hrel;obtain ⟨b',k,f⟩:=g.out.cP;obtain ⟨hp,hm,D,z,r⟩:=F.out;have c:=(kS z (aQ p m (cs.take a)));rw [yL,E4]at c;by_cases s:a<n;·
   have S:lg.wrap ((a:Int) +1)= ((a+1:Nat):Int):=by rw [rr _ (by omega)];rfl
   have B:cs[a]?= some a:=by rw [G.out,List.getElem?_range (by rw [<-L.out];exact s)]
   have WP:=yE k hp (by omega) hm (i:=a) (by rw [<-L.out];exact s);rw [f.q]at WP;have Q:Hid (∀w3,(step (aa st (aQ p m (cs.take a))).1 (db p m a)).2= 0->ay b' p inv (step (aa st (aQ p m (cs.take a))).1 (db p m a)).1 m _ w3->iN w b p inv st m cs (a+1) w3):=hT λw3 j hw=>g.out.next f B j hw;have R:Hid (∀w3,(step (aa st (aQ p m (cs.take a))).1 (db p m a)).2≠0->ay b' p inv (step (aa st (aQ p m (cs.take a))).1 (db p m a)).1 m _ w3->(aa st ((aQ p m cs ++ [cU p inv]) ++ [.fl])).2= (step (aa st (aQ p m (cs.take a))).1 (db p m a)).2/\ay b p inv (aa st ((aQ p m cs ++ [cU p inv]) ++ [.fl])).1 m w w3):=hT λw3 j hw=>by rw [NR];exact g.out.stop ([cU p inv] ++ [.fl]) f B j hw
   obtain ⟨x,O⟩:=eX1 ((step (aa st (aQ p m (cs.take a))).1 (db p m a)).2);rw [<-O]at WP Q R;clear g k f c hp hm D z r B O;by_cases j:x= 0;·
    subst j;rw [cF]at WP;have WP:=hT WP;go_wp2_with fail;refine zg WP.out λw3 hw=>?_;have I:=hT (Q.out w3 (by first|rfl|trivial) hw);clear hw;go_wp2_with fail;go_roundw;case rel=>exact ⟨a+1,rfl,by omega,I⟩
    case measure=>simp [wo];omega
   ·rw [aX j]at WP;have WP:=hT WP;have H:=hT j;clear j;unfold aB at WP;go_wp2_with fail;refine zg WP.out λw3 hw=>?_;have I:=hT (R.out w3 H.out hw);clear hw;go_wp2_with fail;refine ⟨rfl,?_,I.out.2⟩;rw [I.out.1,aX H.out];rfl
  ·obtain rfl:a= n:=by omega
   have t:cs.take a= cs:=OP (by rw [G.out,List.length_range,<-L.out];exact nm _);have d:=g.out.done;rw [t]at k c d;obtain ⟨x,o⟩:=zo k f hp d (by omega);clear g k f c hp hm D z r t d;by_cases j:x= 0;·
    subst j;rw [cF]at o;have o:=hT o;go_wp2_with fail;refine o.out.mono ?_;rintro e w2 ⟨rfl, -,M⟩;obtain ⟨y,l⟩:=M (by first|trivial|rfl);clear M;by_cases h1:y= 0;· subst h1;rw [cF]at l;have l:=hT l;go_wp2_with fail;refine l.out.mono ?_;rintro e w3 ⟨rfl,E,hw⟩;have u:=hT (⟨E,hw⟩:_/\_);clear E hw;go_wp2_with fail;go_end0;exact ⟨u.out.1.symm,u.out.2⟩
    ·rw [aX h1]at l;have l:=hT l;unfold aB at l;clear h1;go_wp2_with fail;refine l.out.mono ?_;rintro e w3 ⟨rfl,E,hw⟩;have u:=hT (⟨E,hw⟩:_/\_);clear E hw;go_wp2_with fail;exact ⟨rfl,u.out.1.symm,u.out.2⟩
   ·rw [aX j]at o;have o:=hT o;have H:=hT j;unfold aB at o;clear j;go_wp2_with fail;refine o.out.mono ?_;rintro e w2 ⟨rfl,C, -⟩;have u:=hT (C H.out);clear C;go_wp2_with fail;exact ⟨rfl,u.out.1.symm,u.out.2⟩
theorem Sk.zp (h:Sk w b p inv st m) (x:Bool) {W:World} (c:(((w.setCell ⟨b.q,6,none⟩ (zU p.gen)).setCell ⟨b.q,7,none⟩ (zI p.g)).setCell ⟨b.q,8,none⟩ (zI p.N)).setCell ⟨b.q,9,none⟩ (.bool x)= W):Sk W b p x st m/\ae.Fr (λk=>k= b.q) w W:=by
 have a:ae.Fr (λk=>k= b.q) w W:=by rw [<-c];exact ((((ae.Fr.refl (λk=>k= b.q) w).setCell (F:=λk=>k= b.q) ⟨b.q,6,none⟩ rfl _).setCell (F:=λk=>k= b.q) ⟨b.q,7,none⟩ rfl _).setCell (F:=λk=>k= b.q) ⟨b.q,8,none⟩ rfl _).setCell (F:=λk=>k= b.q) ⟨b.q,9,none⟩ rfl _
 refine ⟨⟨?_,h.dk.keep a λk hk e=>h.qd (e▸hk),h.tm.keep a λk hk e=>h.qt (e▸hk),h.dt,h.qd,h.qt⟩,a⟩;rw [<-c,heap_setCell_same _ _ _ _ _ _ (heap_setCell_same _ _ _ _ _ _ (heap_setCell_same _ _ _ _ _ _ (heap_setCell_same _ _ _ _ _ _ h.head)))];rfl
theorem jj (h:ae.Fr (λk=>k= q) w w1) (hb:zB w1 w2):ae.Fr (λk=>k= q) w w2:=h.trans (ae.Fr.ax hb:ae.Fr (λk=>k= q) w1 w2) λ_ _ e=>e
def zq (p:Pa) (st:Dm.St) (b:Bk) (w:World) (e:Ending) (w':World):Prop:=ae.Fr (λk=>k= b.q) w w'/\ ((dI p (Dm.one st)= 0/\e= nf (CE #[])/\∃b',Sk w' b' p (gz (Dm.one st) p) st (fG p (Dm.one st))/\b'.q= b.q/\b'.d= b.d/\∀k,b'.t.fp k->w.heap.size<=k)\/(dI p (Dm.one st)= 165/\e= aB 165))
structure ew (p:Pa) (f:Nat->List UInt8) (w:World) (k:Nat) (v:Value) (wr:World):Prop where
 gr:Tb.cA w (eK p f k) v (k*13) wr
 all:∀j,j<k->gR p (f (p.ar j))= true
theorem zr (h:gR p s):(Pm.da s).length= 13:=((Pm.ie _).1 (Pm.again s (mq.1 h).1).1).1
theorem KJ (p:Pa) (f:Nat->List UInt8) (k:Nat) (h:∀j,j<k->gR p (f (p.ar j))):∀x∈eK p f k,(PO lg x).wf= true:=by intro x a;unfold eK at a;obtain ⟨i,hi,a⟩:=List.mem_flatMap.1 a;rw [RP]at hi;obtain ⟨hlen,e⟩:=(Pm.ie _).1 (Pm.again _ (mq.1 (h i hi)).1).1;obtain ⟨j,d⟩:=TF a;have g:=(C2.1 d).1;have h1:=(Pm.nG _).1 (e j (by omega));rw [FU,d,Vf]at h1;have b:lg.min= -9223372036854775808:=rfl;have c:lg.max= 9223372036854775807:=rfl;simp only [Lit.wf,N6,decide_eq_true_eq];omega
theorem ew.next {wr:World} {v':Value} (h:ew p f w k v wr) (hk:gR p (f (p.ar k))) (c:zB wr w2) (h1:w3.ownsRow 0 3 1 v' (k*13+13) (Tb.ag (eK p f k ++ Pm.da (f (p.ar k))))) (g:ae.Fr (λj=>v.ownBlock= some j) w2 w3) (d:∀j,v'.ownBlock= some j->v.ownBlock= some j\/w2.heap.size<=j):ew p f w (k+1) v' w3:=by
 have b:=h.gr.below.size;have a:=h.gr.below.trans (c.mono b);refine ⟨⟨by rw [sY,TV,Nat.one_mul];exact h1,by rw [sY,DC,zr hk,<-h.gr.len];omega,λj hj=>?_,a.trans (g.below a.size h.gr.new)⟩,λj hj=>?_⟩;·
  rcases d j hj with e|e;· exact h.gr.new j e
  ·have:=a.size;omega
 ·by_cases e:j= k;· rw [e];exact hk
  ·exact h.all j (by omega)
theorem ew.own {wr:World} (h:ew p f w k v wr) (b:zB wr w2):w2.ownsRow 0 3 1 v (k*13) (Tb.ag (eK p f k)):= ae.bc h.gr.row λj hj=>b.block j (by obtain ⟨cur,a⟩:=ae.bV h.gr.row j hj;exact ae.lt_of_heap a)
theorem KL (h:Sk w b p false st m) (hp:p.Ok) (hd:st.dead= false) (hl:st.S.length= p.a) (hP:st.P.length<=1099511627776): zF 160 #[zP b.q] w (zq p st b w):=by obtain ⟨f,hf⟩:=eX1 (Dm.one st);have T:=Kw h hp hd hl hP;unfold zq;rw [<-hf]at T⊢;have O:=hT h;have A:Hid (p.Ok/\st.dead= false/\st.S.length= p.a/\st.P.length<=1099511627776/\f= Dm.one st):=hT ⟨hp,hd,hl,hP,hf⟩;cases hh:ja p (f p.st) with
 | false =>
 rw [hh]at T;have H:zF 207 #[zP b.q] w λe w'=>e= aB 165/\zB w w':=T.mono λe w' ⟨h1,J⟩=>by
  rcases J with ⟨u,_⟩|⟨_,u⟩;· cases u
  ·exact ⟨u,h1⟩
 have G:=hT H;have r:Hid (dI p f= 165):=hT (by unfold dI;rw [hh,if_neg (by decide)]);unfold aB at G⊢;clear H T h hp hd hl hP hf hh;go_enter func160,ntmps160;go_wp2_with fail;refine zg G.out λw1 d=>?_;have HB:=hT (jj (ae.Fr.refl (λk=>k= b.q) w) d);clear d;go_wp2_with fail;exact ⟨rfl,HB.out, .inr ⟨r.out,rfl⟩⟩
 | true =>
 rw [hh]at T;obtain ⟨Bv,z⟩:=eX1 (Hm.d_ (f p.st));rw [<-z]at T;have H:zF 207 #[zP b.q] w (zJ (.agg #[zU p.gen,zI p.g,zI p.N, .bool Bv]) w):=T.mono λe w' ⟨h1,J⟩=>by
  rcases J with ⟨_,u⟩|⟨u,_⟩;· exact ⟨u,h1⟩
  ·cases u
 have G:=hT H;have HH:=hT hh;clear H T h hp hd hl hP hf hh;cases Bv with
  | true => have r:Hid (dI p f= 0/\gz f p= true/\fG p f= []):=hT ⟨by unfold dI;rw [HH.out,if_pos rfl,if_pos z.symm],z.symm,by unfold fG;rw [if_pos z.symm]⟩;clear z;go_enter func160,ntmps160;go_wp2_with fail;refine zg G.out λw1 d=>?_;obtain ⟨W1,E⟩:=eX2 ((((w1.setCell ⟨b.q,6,none⟩ (zU p.gen)).setCell ⟨b.q,7,none⟩ (zI p.g)).setCell ⟨b.q,8,none⟩ (zI p.N)).setCell ⟨b.q,9,none⟩ (.bool true));obtain ⟨R,C⟩:=(O.out.below d).zp true E;have B1:=hT ((jj (ae.Fr.refl (λk=>k= b.q) w) d).trans C λ_ _ e=>e);have N1:=hT B1.out.size;obtain ⟨-, -, -, -, -, -,e6,e7,e8,e9,ab,ef⟩:=(O.out.below d).reads;obtain ⟨-, -, -, -, -, -, -, -, -,c9,ad,cf⟩:=R.reads;have K1:=hT R;have NW:=hT (Tb.je 0 W1);clear d C R;go_wp2_with fail;clear E e6 e7 e8 e9 ab ef;refine NW.out.mono ?_;rintro e w2 ⟨⟨o,rfl,ht,hn⟩,d⟩;obtain ⟨W2,Y⟩:=eX2 (w2.setCell ⟨b.q,10,none⟩ (zP o.p));obtain ⟨k2,s2⟩:=K1.out.uu ht hn d;rw [Y]at k2 s2;have K2:=hT k2;have B2:Hid (ae.Fr (λk=>k= b.q) w W2):=hT (by rw [<-Y];exact (jj B1.out d).setCell (F:=λk=>k= b.q) ⟨b.q,10,none⟩ rfl _);have NE:=hT λk hk=>A6 N1.out (hn k hk);obtain ⟨-, -, -, -, -, -, -, -, -, -,d10,df⟩:=(K1.out.below d).reads;clear ht hn d k2 s2 c9 ad cf;go_wp2_with fail;clear Y;refine bodyPost_ret (results_none rfl _ _ _) rfl ?_;exact ⟨B2.out, .inl ⟨r.out.1,rfl,{b with t:=o},by rw [r.out.2.1,r.out.2.2];exact K2.out,rfl,rfl,NE.out⟩⟩
  | false =>
  have I:=hT z.symm;have bm:Hid (p.pg<=1048576/\p.N<=1048576):=hT (by have:=A.out.1.ag.N1;unfold Pa.pg Tb.a_;omega);obtain ⟨n,hn⟩:=eX1 p.pg;have HN:=hT hn;have bt:n<=1048576:=by have:=bm.out;omega
  clear z hn;go_enter func160,ntmps160;go_wp2_with fail;refine zg G.out λw1 d=>?_;obtain ⟨W1,E⟩:=eX2 ((((w1.setCell ⟨b.q,6,none⟩ (zU p.gen)).setCell ⟨b.q,7,none⟩ (zI p.g)).setCell ⟨b.q,8,none⟩ (zI p.N)).setCell ⟨b.q,9,none⟩ (.bool false));obtain ⟨R,C⟩:=(O.out.below d).zp false E;have B1:=hT ((jj (ae.Fr.refl (λk=>k= b.q) w) d).trans C λ_ _ e=>e);have N1:=hT B1.out.size;obtain ⟨-, -, -, -, -, -,e6,e7,e8,e9,ab,ef⟩:=(O.out.below d).reads;obtain ⟨-, -, -, -, -, -, -, -, -,c9,ad,cf⟩:=R.reads;have K1:=hT R;have SP:=ze R A.out.1;rw [<-HN.out]at SP;have ba:=hT SP;clear d C R SP;go_wp2_with fail;clear E e6 e7 e8 e9 ab ef;refine zg ba.out λw2 d=>?_;have L0:Hid (ew p f W1 0 (AF none 0 0) w2):=hT ⟨Tb.cA.nil d,λj hj=>absurd hj (by omega)⟩;clear d c9 ad cf ba;go_wp2_with fail;go_loopw [22,2] (λi s wr=>∃(k:Nat) (v:Value),i= zI k/\s= v/\k<=n/\Hid (ew p f W1 k v wr)) (λi _ _=>n - (wo i).toNat);case atStart=>exact ⟨0,_,rfl,rfl,yb _,L0⟩
  case round=>
   obtain ⟨k,v,rfl,bb,hk,x⟩:=hrel;subst bb;by_cases aw:k<n;·
    have bs:lg.wrap ((k:Int) +1)= ((k+1:Nat):Int):=by rw [rr _ (by omega)];rfl
    have M:=KE (K1.out.below x.out.gr.below) A.out.1 A.out.2.1 A.out.2.2.1 A.out.2.2.2.1 (i:=k) (by rw [<-HN.out];exact aw);rw [<-A.out.2.2.2.2]at M;cases hpb:gR p (f (p.ar k)) with
     | true =>
     have Q:=hT hpb;have V:=zr hpb;unfold qI at M;rw [hpb,V]at M;have H:zF 209 #[zP b.q,zI k] wr λe w'=>∃a c,e= nf (.slice a 13 c)/\Tb.Rd w' a (Pm.da (f (p.ar k)))/\zB wr w':=M.mono λe w' ⟨h1,J⟩=>by
      rcases J with ⟨_,a,c,u,h4⟩|⟨u,_⟩;· exact ⟨a,c,u,h4,h1⟩
      ·cases u
     have L:=hT H;have bl:=hT V;clear M H hpb V;go_wp2_with fail;refine L.out.mono ?_;rintro e w3 ⟨a,c,rfl,hr,d⟩;have bg:=hT hr;have bo:=hT d;have af:=hT (x.out.own d);clear hr d;obtain ⟨K,Z⟩:=eX1 (k*13);rw [<-Z]at af;have HK:=hT Z;have bx:K<=13631488:=by omega
     clear Z;obtain ⟨va,vc,hv⟩:=ae.ck af.out;subst hv;go_wp2_with (at_builtin;refine KF rfl (.tmp 25) (.tmp 28) 59 underlying59 rfl (.slice va K vc) K (eK p f k) rfl (by omega) af.out a 13 c (Pm.da (f (p.ar k))) bl.out.symm (by omega) (by omega) rfl bg.out ?_;intro v' w4 h1 J u;have G4:=hT (x.out.next Q.out bo.out (by rw [<-HK.out];exact h1) J u);clear h1 J u);go_roundw;case rel=>exact ⟨k+1,_,rfl,rfl,by omega,G4⟩
     case measure=>simp [wo];omega
     | false =>
     unfold qI at M;rw [hpb]at M;have H:zF 209 #[zP b.q,zI k] wr λe w'=>e= aB 165/\zB wr w':=M.mono λe w' ⟨h1,J⟩=>by
      rcases J with ⟨u,_⟩|⟨_,u⟩;· cases u
      ·exact ⟨u,h1⟩
     have L:=hT H;have r:Hid (dI p f= 165):=hT (by unfold dI;rw [HH.out,if_pos rfl,I.out,if_neg (by decide),if_neg];intro U;unfold mr at U;rw [TX]at U;have:=U k (RP.2 (by rw [<-HN.out];exact aw));rw [hpb]at this;cases this);unfold aB at L;clear M H hpb;go_wp2_with fail;refine zg L.out λw3 d=>?_;have B3:=hT (jj (jj B1.out x.out.gr.below) d);clear d;go_wp2_with fail;exact ⟨rfl,B3.out, .inr ⟨r.out,rfl⟩⟩
   ·obtain rfl:k= n:=by omega
    have B:=x.out.gr;have D:=x.out.all;have kk:=K1.out.below B.below;obtain ⟨-, -, -, -, -, -, -, -,r8, -,bq,rf⟩:=kk.reads;have hlen:=B.len.symm;obtain ⟨K,Z⟩:=eX1 (k*13);rw [<-Z]at hlen;have hints:Tb.Ints wr u2 (eK p f k):=by show Tt _ _ _ _ _ _ _;rw [hlen,Z];exact B.row
    obtain ⟨va,vc,hv,ao⟩:=Tb.Rd.own hints;rw [hlen]at hv;have LO:=Tb.tE (p:=(p.N:Int)) (l:=eK p f k) (w:=wr) va vc (by rw [hlen];omega) ao (KJ p f k D);rw [hlen]at LO;have Q:Hid (mr p f= true):=hT (by unfold mr;rw [TX];intro i hi;rw [RP,<-HN.out]at hi;exact D i hi);have EN:Hid (eK p f k= eK p f p.pg):=hT (by rw [HN.out]);have BW:=hT B.below;have KK:=hT kk;clear x B D kk hints ao hlen Z;subst hv;unfold Tb.kt at LO;obtain ⟨y,hy⟩:=eX1 (Tb.gM (p.N:Int) (eK p f k));rw [<-hy]at LO;have HY:=hT hy;clear hy;have bf:=hT LO;clear LO;have NN:=hT (λw1=>tw w1);have NY:=hT (λw1=>iI w1);unfold aB at NN;go_wp2_with fail;refine bf.out.mono ?_;rintro e w3 ⟨d,⟨h0,rfl⟩|⟨h0,o,rfl,ht,W⟩⟩;·
     have e1:(y == 0)= false:=by simpa using h0
     have B3:=hT (jj (jj B1.out BW.out) d);have r:Hid (dI p f= 165):=hT (by unfold dI;rw [HH.out,if_pos rfl,I.out,if_neg (by decide),Q.out,if_pos rfl,<-EN.out,<-HY.out,if_neg h0]);clear d h0;go_wp2_with fail;refine zh (NN.out _) ?_;go_wp2_with fail;exact ⟨rfl,B3.out, .inr ⟨r.out,rfl⟩⟩
    ·have k3:=KK.out.below d;obtain ⟨-, -, -, -, -, -, -, -, -, -,d10,df⟩:=k3.reads;obtain ⟨W4,X⟩:=eX2 (w3.setCell ⟨b.q,10,none⟩ (zP o.p));obtain ⟨k4,s4⟩:=KK.out.uu ht W d;rw [X]at k4 s4;have K4:=hT k4;have B4:Hid (ae.Fr (λk=>k= b.q) w W4):=hT (by rw [<-X];exact (jj (jj B1.out BW.out) d).setCell (F:=λk=>k= b.q) ⟨b.q,10,none⟩ rfl _);have NE:=hT λk hk=>A6 N1.out (A6 BW.out.size (W k hk));have r:Hid (dI p f= 0/\gz f p= false/\fG p f= (eK p f k).take p.N):=hT (by
     refine ⟨?_,I.out,?_⟩;· unfold dI;rw [HH.out,if_pos rfl,I.out,if_neg (by decide),Q.out,if_pos rfl,<-EN.out,<-HY.out,if_pos h0]
     ·unfold fG;rw [I.out,if_neg (by decide),EN.out]);subst h0;clear ht W d k3 k4 s4;go_wp2_with fail;refine zh (NY.out _) ?_;go_wp2_with fail;clear X;go_end0;refine ⟨B4.out, .inl ⟨r.out.1,rfl,{b with t:=o},?_,rfl,rfl,NE.out⟩⟩;rw [r.out.2.1,r.out.2.2];exact K4.out
structure oA (w W:World) (a n g p m:Int):Prop where
 aL:zB w W
 c:W.cell? (zz w 0)= some (zI a)/\W.cell? (zz w 1)= some (zI n)/\W.cell? (zz w 2)= some (zI g)/\W.cell? (zD (w.heap.size+1) 0)= some (zI p)/\W.cell? (zD (w.heap.size+1) 1)= some (zI m)
 sz:w.heap.size+2<=W.heap.size
theorem oA.next {W W':World} {a n g p m:Int} (h:oA w W a n g p m) (b:zB W W'):oA w W' a n g p m:=by obtain ⟨h1,⟨c0,c1,c2,c3,c4⟩,c⟩:=h;have k:∀(q j:Nat) (v:Value),q<w.heap.size+2->W.cell? (zD q j)= some v->W'.cell? (zD q j)= some v:=λq j v hq hv=>(b.cell (p:=(zD q j)) (by show q<W.heap.size;omega)).trans hv;exact ⟨h1.trans (b.mono h1.size),⟨k _ _ _ (by omega) c0,k _ _ _ (by omega) c1,k _ _ _ (by omega) c2,k _ _ _ (by omega) c3,k _ _ _ (by omega) c4⟩,A6 c b.size⟩
theorem uv (w:World) (a n g p m:Int) (W0:World) (h:(w.alloc (zK a n g 85)).alloc (zE p m 65)= W0):oA w W0 a n g p m:=by obtain ⟨c,⟨_,e,a1,a2⟩,d,b1,b⟩:=ij w a n g p m W0 h;exact ⟨c,⟨e,a1,a2,d,b1⟩,by omega⟩
theorem KM {f:FuncId} {args:Array Value} (h:Calls P f args (w.drewN n) λe w'=>e= nf v/\w.drewN n= w'):Calls P f args (w.drewN n) λe w'=>e= nf v/\∃m,w'= w.drewN m:= h.mono λe w' ⟨h1,h2⟩=>⟨h1,n,h2.symm⟩
theorem KN (h:ae.Dk w o st) (n:Nat):ae.Dk (w.drewN n) o st:=h.same λ_ _=>rfl
theorem fc {B:Nat} (h:Below B w w1) (n:Nat):Below B w (w1.drewN n):=⟨h.os,h.tape,h.output,h.size,h.block⟩
def qJ (p:Pa) (o:ae.Ob) (st:Dm.St) (w:World) (e:Ending) (w':World):Prop:=∃b,e= zV (zP b.q) (zI 0)/\Sk w' b p false st (vw p.N (-1))/\b.d= o/\w.heap.size<=b.q/\(∀k,b.t.fp k->w.heap.size<=k)/\zB w w'
theorem KO (x y:Int) (w:World):(Instr.field 103 (zM x y) 1).run prog w= .ok (zI y) w:=by kernel_rfl
theorem zt (h:ae.Dk w o st) {p:Pa} (hp:p.Ok) (hl:st.S.length= p.a):zF 158 #[zP o.p, zO p.a p.n p.g, zM p.st p.ln,zU p.gen] w (qJ p o st w):=by
 obtain ⟨W0,C⟩:=eX2 ((w.alloc (zK p.a p.n p.g 85)).alloc (zE p.st p.ln 65));have hB:=uv w _ _ _ _ _ W0 C;have HB:=hT hB;obtain ⟨_,⟨E,a1,a2,D,b1⟩,_⟩:=hB;have RM:=hT hp.qn;unfold ko at RM;have SG:=hT (λw1=>lr (p.a:Int) (p.n:Int) (p.g:Int) w1 hp.sup);have GE:=hT (λw1=>gC (p.a:Int) (p.n:Int) (p.g:Int) w1 hp.sup);have e1:((p.gen:Int) == 0)= false:=by have:=hp.xn;simp;omega
 have Q:=hp.ag.a1;have R:=hp.ag.N1;have e3:lg.wrap (17+ (p.n:Int) + ((p.a:Int) - (17+ (p.n:Int))))= (p.a:Int):=by rw [rr _ (by omega)];omega
 have P:=hT h;have HL:=hT hl;have NW:Hid (∀w1,zF 205 #[zI p.N] w1 (Tb.Made (vw p.N (-1)) w1.heap.size w1)):=hT λw1=>by
  have:=Tb.je (p.N:Int) w1;have e:Tb.iK (p.N:Int)= p.N:=by unfold Tb.iK;rw [if_pos (by omega),GH]
  rwa [e]at this
 have ab:=λw1=>KO (p.n:Int) (p.g:Int) w1;clear h hp hl Q R;unfold qJ;go_enter func158,ntmps158;go_wp2_with fail;clear C;refine zg (RM.out _) λw1 c=>?_;have L:=hT (HB.out.next c);obtain ⟨_,⟨E,a1,a2,D,b1⟩,_⟩:=L.out;clear c;go_wp2_with fail;refine zg (SG.out _) λw2 c=>?_;have V:=hT (L.out.next c);clear c;obtain ⟨G,s⟩:=eX2 (w2.alloc (zE (17+ (p.n:Int)) ((p.a:Int) - (17+ (p.n:Int))) 65));have B:zB w2 G:=by rw [<-s];exact zA
 have y:G.heap[w2.heap.size]?= some (hV #[zI (17+ (p.n:Int)),zI ((p.a:Int) - (17+ (p.n:Int)))] 65 (0,0)):=by rw [<-s];exact heap_alloc_new w2 _
 obtain ⟨s0,s1,sf⟩:=bR y;have K:=hT (V.out.next B);have X:=hT λn=>KN (P.out.below K.out.aL) n;have SE:Hid (∀n,zF 41 #[zP o.p] (G.drewN n) λe w'=>e= nf (zI p.a)/\∃m,w'= G.drewN m):=hT λn=>by rw [<-HL.out];exact KM (ae.nY (X.out n))
 clear B y;go_wp2_with fail;go_quiet (first|(go_at_call 41;exact SE.out _));generalize hW4:G.drewN nq= W4;have J:Hid (oA w W4 (p.a:Int) (p.n:Int) (p.g:Int) (p.st:Int) (p.ln:Int)):=hT (by rw [<-hW4];exact K.out.next (fc zR nq));clear hW4 s s0 s1 sf E a1 a2 D b1 SE;obtain ⟨_,⟨E,a1,a2,D,b1⟩,_⟩:=J.out;go_wp2_with fail;refine zg (GE.out _) λw5 c=>?_;have U:=hT (J.out.next c);clear c E a1 a2 D b1;go_wp2_with fail;obtain ⟨F,j⟩:=eX2 (w5.alloc (hV #[zU p.gen,zI p.g,zI p.N, .bool false] 188));rw [j];have A:zB w5 F:=by rw [<-j];exact zA
 have x:F.heap[w5.heap.size]?= some (hV #[zU p.gen,zI p.g,zI p.N, .bool false] 188 (0,0)):=by rw [<-j];exact heap_alloc_new w5 _
 have l:=hT (U.out.next A);have H:=hT x;have CC:Hid (∀W,zB F W->W.cell? (zz w5 0)= some (zU p.gen)/\W.cell? (zz w5 1)= some (zI p.g)/\W.cell? (zz w5 2)= some (zI p.N)/\W.cell? (zz w5 3)= some (.bool false)):=hT λW hW=>by have M:=(hW.block w5.heap.size (ae.lt_of_heap H.out)).trans H.out;exact ⟨zW M,zW M,zW M,zW M⟩
 obtain ⟨_,⟨E,a1,a2,D,b1⟩,_⟩:=l.out;obtain ⟨h0,h1,T,h3⟩:=CC.out F zR;clear A x;clear j;go_region_held3 (λw'=>w'.cell? (zz w 0)= some (zI p.a)/\w'.cell? (zz w 1)= some (zI p.n)/\w'.cell? (zz w 2)= some (zI p.g)/\w'.cell? (zD (w.heap.size+1) 0)= some (zI p.st)/\w'.cell? (zD (w.heap.size+1) 1)= some (zI p.ln)/\w'.cell? (zz w5 0)= some (zU p.gen)/\w'.cell? (zz w5 1)= some (zI p.g)/\w'.cell? (zz w5 2)= some (zI p.N)/\w'.cell? (zz w5 3)= some (.bool false)) (first|(refine ⟨?_,?_,?_,?_,?_,?_,?_,?_,?_⟩<;>assumption)|go_keep) (first
  | (go_at_call 205;refine (NW.out _).mono ?_;rintro e d ⟨⟨t,rfl,Z,hn⟩,c⟩;have HT:=hT Z;have HN:=hT hn;have Y:=hT (gU c);obtain ⟨_,⟨f0,f1,f2,f3,f4⟩,_⟩:=l.out.next Y.out;obtain ⟨f5,f6,f7,f8⟩:=CC.out _ Y.out;clear Z hn c));obtain ⟨O,i⟩:=eX2 (d.alloc (hV (Bk.cells ⟨d.heap.size,o,t⟩ p false) 191));have f:zB d O:=by rw [<-i];exact zA
 have v:O.heap[d.heap.size]?= some (hV (Bk.cells ⟨d.heap.size,o,t⟩ p false) 191 (0,0)):=by rw [<-i];exact heap_alloc_new d _
 have I:=l.out.next Y.out;have b:=I.aL;have r:=l.out.aL.size;have z:=(P.out.below b).below f;have u:=HT.out.below f;have q:Hid (Sk O ⟨d.heap.size,o,t⟩ p false st (vw p.N (-1))/\w.heap.size<=d.heap.size/\(∀k,t.fp k->w.heap.size<=k)/\zB w O):=hT ⟨⟨v,z,u,λk hk ho=>by have h1:=P.out.lt k hk;have T:F.heap.size<=k:=HN.out k ho;omega,λhk=>by have h1:=P.out.lt _ hk;have T:=b.size;exact TL _ (ti h1 T),λho=>TL _ (HT.out.lt _ ho)⟩,b.size,λk hk=>A6 r (HN.out k hk),b.trans (f.mono b.size)⟩;unfold Bk.cells at i;clear f v I b r z u;go_wp2_with fail;clear i;go_ret2;exact ⟨⟨d.heap.size,o,t⟩,rfl,q.out.1,rfl,q.out.2.1,q.out.2.2.1,q.out.2.2.2⟩
theorem ue (x:Int) (w:World):(Instr.typeAssert (.iface 251 (.agg #[zI x])) 20 251 true).run prog w= .ok (CE #[.agg #[zI x], .bool true]) w:=by kernel_rfl
theorem ug (x:Int) (w:World):(binOp .eql 20 (.iface 251 (.agg #[zI x])) .nilIface).run prog w= .ok (.bool false) w:=by kernel_rfl
theorem uh (w:World):(binOp .eql 20 .nilIface .nilIface).run prog w= .ok (.bool true) w:=by kernel_rfl
theorem ui (p:Addr) (x y:Int) (older:List PanicEntry) (w:World) (d:w.cell? p= some (zI y)) (b:w.frozen? p= false) (hp:p.block<w.heap.size): CallsD prog 206 #[xb (some p)] (.panicking ({v:= .iface 251 (.agg #[zI x]),recovered:=false} :: older)) w λe u' w'=> e= nf (CE #[])/\u'= (.panicking ({v:= .iface 251 (.agg #[zI x]),recovered:=true} :: older))/\w'= (w.alloc (hV #[zI x] 251)).setCell p (zI x):=by have h1:=λw=>ue x w;have f:=λw=>ug x w;have c:(w.alloc (hV #[zI x] 251)).cell? p= some (zI y):=(((zA).cell hp)).trans d;have a:(w.alloc (hV #[zI x] 251)).frozen? p= false:=(((zA).frozen hp)).trans b;refine callsD_of_wpS func206 rfl λc₀ cs hu=>?_;apply wpS_seq;apply wpS_region;simp [wpOpsS,go_sem,recoverD,hu,ntmps206,Exit.thenS];rw [show (#[xb (some p)] ++ (Vr 11 undef).setIfInBounds 3 (.iface 251 (.agg #[zI x])))= #[xb (some p),undef,undef,undef,(.iface 251 (.agg #[zI x])),undef,undef,undef,undef,undef,undef,undef]from rfl];refine wpS_of_wp ?_;go_wp2;simp [bodyPostS,results,results206]
theorem ov (p:Addr) (w:World): CallsD prog 206 #[xb (some p)] .returning w λe u' w'=> e= nf (CE #[])/\u'= .returning/\w'= w:=by have a:=uh;refine callsD_of_wpS func206 rfl λc₀ cs hu=>?_;apply wpS_seq;apply wpS_region;simp [wpOpsS,go_sem,recoverD,hu,ntmps206,Exit.thenS];rw [show (#[xb (some p)] ++ (Vr 11 undef).setIfInBounds 3 .nilIface)= #[xb (some p),undef,undef,undef, .nilIface,undef,undef,undef,undef,undef,undef,undef]from rfl];refine wpS_of_wp ?_;go_wp2;cases c₀;simp_all [bodyPostS,results,results206]
theorem ky {f:FuncId} {first cap:Array Value} {Z:Int->World->Prop} (ef:∀args w,(callFunc f args).run prog w= .ok (.enter f args) w) (i:∀x w2,Z x w2->w2.heap[w.heap.size]?= some (hV #[zI 0] 38 (0,0))) (l:zF f (first ++ cap) (w.alloc (hV #[zI 0] 38)) λe w2=>∃x,e= aP x/\Z x w2): zF 159 #[.func (.func f) first cap] w λe w'=>∃x w2,e= nf (zI x)/\Z x w2/\ae.Fr (λk=>k= w.heap.size) w2 w':=by
 have q:=hT l;have p:=hT i;clear l i;go_enter_defers func159,ntmps159;go_wp2_with fail;refine q.out.mono ?_;rintro e w1 ⟨x,rfl,g⟩;have c:=p.out x w1 g;have a:=(DN.1 c).1;have c1:w1.cell? (zz w 0)= some (zI 0):=zW c;have f1:=frozen_of_row (j:=0) _ _ _ _ c;have n:=hT g;clear g c;by_cases m:x= 0;· subst m;rw [cF];go_wp2;refine leaves_cons (f:=206) (args:=#[zP w.heap.size]) (by simp) (by simp [go_sem]) ?_;refine (ov ⟨w.heap.size,0,none⟩ _).mono ?_;rintro e o d ⟨rfl,rfl,rfl⟩;have h:(w1.setCell ⟨w.heap.size,0,none⟩ (zI 0)).cell? (zz w 0)= some (zI 0):=UY w1 _ _ c1;simp [Leaves,settle,results,results159,go_sem,h];exact ⟨w1,n.out,ae.Fr.setCell (F:=λk=>k= w.heap.size) (ae.Fr.refl _ w1) ⟨w.heap.size,0,none⟩ rfl _⟩
 ·rw [aX m];unfold aB;go_wp2;refine leaves_cons (f:=206) (args:=#[zP w.heap.size]) (by simp) (by simp [go_sem]) ?_;refine (ui ⟨w.heap.size,0,none⟩ x 0 [] _ c1 f1 a).mono ?_;rintro e o d ⟨rfl,rfl,rfl⟩;have b:zB w1 (w1.alloc (hV #[zI x] 251)):=zA;have c2:=(b.cell a).trans c1;have h:((w1.alloc (hV #[zI x] 251)).setCell ⟨w.heap.size,0,none⟩ (zI x)).cell? (zz w 0)= some (zI x):=UY _ _ _ c2;simp [Leaves,settle,results,results159,go_sem,h];exact ⟨w1,n.out,ae.Fr.setCell (F:=λk=>k= w.heap.size) (ae.Fr.ax b) ⟨w.heap.size,0,none⟩ rfl _⟩
theorem qK {f:FuncId} {first cap:Array Value} (h:Sk w b p inv st m) (ef:∀args w,(callFunc f args).run prog w= .ok (.enter f args) w) (R:Int->Bool->Dm.St->List Int->Prop) (u:∀W,w.alloc (hV #[zI 0] 38)= W->zB w W->zF f (first ++ cap) W λe w2=>∃x inv' st' m',e= aP x/\R x inv' st' m'/\ay b p inv' st' m' W w2): zF 159 #[.func (.func f) first cap] w λe w'=>∃x inv' st' m',e= nf (zI x)/\R x inv' st' m'/\ay b p inv' st' m' w w':=by
 obtain ⟨W,d⟩:=eX2 (w.alloc (hV #[zI 0] 38));have r:zB w W:=by rw [<-d];exact zA
 have t:W.heap[w.heap.size]?= some (hV #[zI 0] 38 (0,0)):=by rw [<-d];exact heap_alloc_new w _
 have s:W.heap.size= w.heap.size+1:=by rw [<-d];simp
 have n:¬b.fp w.heap.size:=λe=>TL _ (h.lt _ e);have j:=u W d r;refine (ky (Z:=λx w2=>∃inv' st' m',R x inv' st' m'/\ay b p inv' st' m' W w2) ef ?_ ?_).mono ?_;· rintro x w2 ⟨inv',st',m',_,hw⟩;rw [hw.fr.block _ (by omega) n,t]
 ·rw [d];refine j.mono ?_;rintro e w2 ⟨x,inv',st',m',h1,g,l⟩;exact ⟨x,h1,inv',st',m',g,l⟩
 ·rintro e w' ⟨x,w2,rfl,⟨inv',st',m',g,l⟩,o⟩;refine ⟨x,inv',st',m',rfl,g,?_⟩;obtain ⟨b2,i,c⟩:=l;have a:=(Sp.ax r).trans c;refine ⟨b2,i.keep o λk hk e=>?_,⟨a.fr.trans o λk h1 g=>by omega,a.fp,a.q,a.dp,a.df⟩⟩;rcases c.fp k hk with h|h;· rw [e]at h;exact n h
  ·omega
def zu (p:Pa) (o:ae.Ob) (inv:Bool) (st:Dm.St) (m:zN) (w:World) (e:Ending) (w':World):Prop:=∃b,e= zV (zP b.q) (zI 0)/\Sk w' b p inv st m/\b.d.p= o.p/\(∀k,b.fp k->o.fp k\/w.heap.size<=k)/\(∀k,b.d.fp k->o.fp k\/w.heap.size<=k)/\w.heap.size<=b.q/\ae.Fr o.fp w w'
end So
end
section
namespace So
open Go.RowKit Go.Shelf Geo
attribute [local go_sem] Oper.semAt_some
theorem KR (d:Nat) (hd:1<=d) (ly n₀ b off bs:Nat) (l:zN) (n c:Nat) (u:n= l.length) (E:n<=1099511627776) (a:Option Addr) (w:l≠ []->a= some ⟨b,off,none⟩) (J Jx:zN->World->Prop) (y:∀pre (x:Int) W,J pre W->pre.length<l.length->YieldAt TT (d - 1) prog ly #[zI x] W λe W'=> (e= nf (.bool true)/\J (pre ++ [x]) W'/\Below n₀ W W')\/(e= nf (.bool false)/\Jx (pre ++ [x]) W')) (W:World) (cs:W.cell? (zD bs 0)= some (.slice a n c)) (row:∀W',Below n₀ W W'->∀i x,l[i]?= some x->W'.cell? ⟨b,off+i,none⟩= some (zI x)) (z:J [] W): CallsIn TT d prog 283 #[.func (.yield ly) #[] #[],zP bs] W λe W'=>(∃v,e= nf v)/\ ((∃ys,ys= l/\J ys W')\/(∃pre,pre <+:l/\Jx pre W')):=by
 refine callsIn_of_wp func283 rfl trivial ?_ rfl;simp only [ntmps283,Uh,Tl,Un,Nat.reduceAdd,Nat.reduceSub,U5,U6,U7,U8,TJ,TN];have N:=hT z;have H:=hT y;have M:=hT w;have B:=hT u;have K:=hT row;clear y z w u row;gi_wp2;gi_loopw [7] (λv wr=>∃k:Nat,v= zI k/\k<=n/\Hid (J (l.take k) wr/\Below n₀ W wr)) (λv _=>n - (wo v).toNat);case atStart=>exact ⟨0,rfl,yb _,hT ⟨by rw [Tj];exact N.out,G3 _ _⟩⟩
 case round=>
  obtain ⟨k,rfl,hk,f⟩:=hrel;by_cases F:k<n;·
   have D:lg.wrap ((k:Int) +1)= ((k+1:Nat):Int):=by rw [rr _ (by omega)];rfl
   have g:k<l.length:=by have:=B.out;omega
   have j:l≠ []:=by intro e;rw [e]at g;simp at g
   have q:=M.out j;subst q;obtain ⟨x,p⟩:∃x,l[k]?= some x:=⟨l[k],C1 g⟩;have O:=K.out wr f.out.2 k x p;have hlen:(l.take k).length<l.length:=by rw [E4];omega
   obtain ⟨fn,tmps,assign,body,C,r⟩:=H.out (l.take k) x wr f.out.1 hlen;have A:Hid (l.take k ++ [x]= l.take (k+1)):=hT (by obtain ⟨h1,G⟩:=C2.1 p;rw [TD h1,G]);clear p g j hlen;gi_wp2_with fail;refine r.mono ?_;rintro e s (⟨rfl,o,m⟩|⟨rfl,h⟩);·
    have t:Hid (J (l.take (k+1)) s/\Below n₀ W s):=hT ⟨by rw [<-A.out];exact o,f.out.2.trans m⟩;clear m o f;gi_wp2_with fail;go_roundw;case rel=>exact ⟨k+1,rfl,by omega,t⟩
    case measure=>simp [wo];omega
   ·have I:Hid (Jx (l.take (k+1)) s):=hT (by rw [<-A.out];exact h);clear h;gi_wp2;refine bodyPost_ret (results_none rfl _ _ _) rfl ?_;exact ⟨⟨_,rfl⟩, .inr ⟨_,List.take_prefix _ _,I.out⟩⟩
  ·obtain rfl:k= n:=by omega
   have L:=hT (by have:=f.out.1;rwa [OP (by rw [<-B.out];exact nm _)]at this);clear f;gi_wp2_with fail;go_end0;exact ⟨⟨_,rfl⟩, .inl ⟨l,rfl,L.out⟩⟩
theorem KS (d:Nat) (hd:1<=d) (n₀ b off bs:Nat) (l:zN) (n c:Nat) (j:n= l.length) (g:n<=1099511627776) (a:Option Addr) (o:l≠ []->a= some ⟨b,off,none⟩) (w:World) (cs:w.cell? (zD bs 0)= some (.slice a n c)) (m:l≠ []->b<n₀) (row:∀i x,l[i]?= some x->w.cell? ⟨b,off+i,none⟩= some (zI x)): SeqStopsK TT d prog 283 #[zP bs] (λx:Int=>#[zI x]) (Below n₀) (λys=>ys= l) (λpre=>pre <+:l) l.length w:=λly J Jx W hW hJ _ hY h0=>by
 have k:=λ(p:Addr) v (h:w.cell? p= some v)=>(hW.cell (p:=p) (Vt _ _ h)).trans h;refine KR d hd ly n₀ b off bs l n c j g a o J Jx hY W (k _ _ cs) (λW' hW' i x hx=>?_) h0;have f:l≠ []:=λe=>by rw [e]at hx;simp at hx
 rw [hW'.cell (p:=⟨b,off+i,none⟩) (m f)];exact k _ _ (row i x hx)
theorem jD:(prog.info? 3).map (λi=>(i.zero,i.size,i.bytes))= some (some (zI 0),1,8):=by kernel_rfl
theorem KT (bs:Nat) (l:zN) (n c:Nat) (Z:n= l.length) (Y:n<=1048576) (a:Option Addr) (w:World) (cs:w.cell? (zD bs 0)= some (.slice a n c)) (N:Tb.Rd w a l): zF 269 #[AF none 0 0, .func (.func 283) #[] #[zP bs]] w λe w'=>∃v,e= nf v/\w'.ownsRow w.heap.size 3 1 v l.length (Tb.ag l)/\zB w w':=by
 obtain ⟨V,hi,C,B,A⟩:=info_parts jD;obtain ⟨b,off,O,y,row⟩:∃b off,(l≠ []->a= some ⟨b,off,none⟩)/\(l≠ []->b<w.heap.size)/\∀i x,l[i]?= some x->w.cell? ⟨b,off+i,none⟩= some (zI x):=by
  by_cases u:l= [];· exact ⟨0,0,λh=>(h u).elim,λh=>(h u).elim,λi x hx=>by rw [u]at hx;simp at hx⟩
  ·obtain ⟨b,off,e,y,I⟩:=N u;exact ⟨b,off,λ_=>e,λ_=>y,I⟩
 refine (callsIn_wide (n:=3)).1 ?_;refine callsIn_of_wp_marks func269 rfl trivial ?_ rfl;simp only [ntmps269,Uh,Tl,Un,Nat.reduceAdd,Nat.reduceSub,U5,U6,U7,U8,TJ,TN];gi_wp2_with fail;obtain ⟨L,j⟩:=eX2 (w.alloc (hV #[AF none 0 0] 59));have Q:=Boxed.new w 59 (AF none 0 0);have s:zB w L:=by rw [<-j];exact zA
 have X:L.heap.size= w.heap.size+1:=by rw [<-j];simp
 rw [j]at Q;have k:=λ(p:Addr) v (h:w.cell? p= some v)=>(s.cell (p:=p) (Vt _ _ h)).trans h;have ST:=KS (3 - 1) (by omega) w.heap.size b off bs l n c Z (by omega) a O L (k _ _ cs) y (λi x hx=>k _ _ (row i x hx));rw [j];clear j cs N y row O k;refine wpIn_rangeFunc_ownF rfl (by omega) (gf:=283) (lb:=#[zP bs]) rfl trivial (enters_of func283 (by kernel_rfl) rfl) ST (λh k=>h.trans k) (belowK_b (by omega)) zR (λ_=>rfl) (λpre W=>(∃v,Boxed W w.heap.size 59 v/\W.ownsRow w.heap.size 3 1 v pre.length (Tb.ag pre)/\True)/\zB w W) (λ_ _ _=>False) (OwnFrom.and (Own.from (holdsRow_own w.heap.size w.heap.size 59 3 1 (λpre:List Int=>pre.length) Tb.ag (λ_ _=>True)) _) (ownFrom_below (nm _) (by omega))) (λ_ _ _ _ _ hs _ _=>hs) ⟨⟨_,Q,Ts _ _ _ _,trivial⟩,s⟩ (λx=>{tmps:=#[AF none 0 0, .func (.func 283) #[] #[zP bs],zP w.heap.size,undef, AF none 0 0,zI x, .func (.func 283) #[] #[zP bs],zI x,undef,undef,undef,undef,undef],defers:= []}) ?assign ?body ?done ?stop;case assign=> rintro T x W K r;gi_wp2;exact r
 case body=>
  rintro T pre x W ⟨⟨v,t,d,_⟩,z⟩ G;have I:=t.cell;obtain ⟨k,hk⟩:=eX1 pre.length;rw [<-hk]at d G;have HK:=hT hk;have HR:=hT d;have M:=hT (qL d);have ab:k<=1048576:=by omega
  obtain ⟨S,R,rfl⟩:∃a c,v= .slice a k c:=by
   rcases d.2 with ⟨h,h0⟩|⟨g,cap,cur,h,_⟩;· exact ⟨none,0,by rw [h,h0]⟩
   ·exact ⟨_,_,h⟩
  clear hk d;gi_wp2_with (gi_at_builtin;refine zv _ rfl _ _ 59 rfl 3 V _ 1 8 underlying59 hi C B A rfl (by decide) (.slice S k R) k (Tb.ag pre) rfl (M.out.alloc _) ⟨W.heap.size,0,none⟩ 1 1 [zI x] rfl rfl (World.news_of_block (cs:=#[zI x]) (heap_alloc_new W _)) (by simp [Value.oneCell']) (by unfold maxLen;omega) (by omega) ?_;intro v' w3 f m J;obtain ⟨g',P,rfl⟩:=ownsRow_succ f;obtain ⟨o,E,F,H,q,U⟩:=zx t (by decide) HR.out z.size (by omega) f m (by simpa using J);have af:=o.cell;have ad:=o.frozen);exact ⟨H,q,⟨_,E,by rw [Tb.ag,R0,DC,<-HK.out];exact F,trivial⟩,z.trans q⟩
 case done=> rintro D ys W hD rfl ⟨⟨v,t,d,_⟩,z⟩ r;have I:=t.cell;gi_wp2;refine ⟨by simp, .inl ⟨_,_,rfl,run_takeDeferred r,?_⟩⟩;exact ⟨_,results_tmp rfl _ _ _,v,rfl,ownsRow_putObj d _ r rfl,z.trans (belowK_b (w:=w) (nm _) W D _ _ (by omega) r rfl rfl)⟩
 case stop=> rintro D c pre W _ _ h _;exact h.elim
theorem KU (a:Option Addr) (n c:Nat) (w:World):zF 254 #[.slice a n c] w λe w'=>e= nf (.func (.func 283) #[] #[zP w.heap.size])/\w'= w.alloc (hV #[.slice a n c] 59):=by go_enter func254,ntmps254;go_wp2;go_ret;exact ⟨rfl,rfl⟩
theorem KV (bs:Nat) (l:zN) (n c:Nat) (f:n= l.length) (b:n<=1048576) (a:Option Addr) (w:World) (cs:w.cell? (zD bs 0)= some (.slice a n c)) (d:Tb.Rd w a l): zF 230 #[.func (.func 283) #[] #[zP bs]] w λe w'=>∃v,e= nf v/\w'.ownsRow w.heap.size 3 1 v l.length (Tb.ag l)/\zB w w':=by have i:=hT (KT bs l n c f b a w cs d);clear d cs f b;go_enter func230,ntmps230;go_wp2_with fail;refine i.out.mono ?_;rintro e w1 ⟨v,rfl,g,h⟩;go_wp2;go_ret;exact ⟨v,rfl,g,h⟩
theorem KW (bs:Nat) (l:zN) (n c:Nat) (i:n= l.length) (b:n<=1048576) (a:Option Addr) (w:World) (cs:w.cell? (zD bs 0)= some (.slice a n c)) (h:Tb.Rd w a l): zF 192 #[.func (.func 283) #[] #[zP bs]] w λe w'=>∃v,e= nf v/\Tb.Ints w' v (sorted l)/\(∀k,v.ownBlock= some k->w.heap.size<=k)/\zB w w':=by have s:=hT (KV bs l n c i b a w cs h);have r:Hid (l.length<=1099511627776):=hT (by omega);clear h cs i b;go_enter func192,ntmps192;go_wp2_with fail;refine s.out.mono ?_;rintro e w1 ⟨v,rfl,d,m⟩;have q:=hT (yH (qL d) r.out);have o:=hT d;have p:=hT m;clear d m;go_wp2_with fail;refine q.out.mono ?_;rintro e w2 ⟨rfl,g,j⟩;have f:Hid (Tb.Ints w2 v (sorted l)/\(∀k,v.ownBlock= some k->w.heap.size<=k)/\zB w w2):=hT ⟨g,λk hk=>(lC o.out k hk).1,p.out.trans (j.below p.out.size λk hk=>(lC o.out k hk).1)⟩;clear g j;go_wp2;go_ret;exact ⟨v,rfl,f.out⟩
theorem KX {w:World} {a:Option Addr} {l:zN} (n c:Nat) (m:n= l.length) (j:n<=1048576) (r:Tb.Rd w a l):zF 219 #[.slice a n c] w (zJ (.bool (decide l.Nodup)) w):=by
 obtain ⟨o,b⟩:=eX2 (w.alloc (hV #[.slice a n c] 59));have f:zB w o:=by rw [<-b];exact zA
 have g:=KU a n c w;rw [b]at g;have g:=hT g;have t:o.cell? (zz w 0)= some (.slice a n c):=by rw [<-b];simp
 have x:=hT (KW w.heap.size l n c m j a o t (r.below f));have z:=hT f;have y:=hT m;clear r t f b m;go_enter func219,ntmps219;go_wp2_with fail;refine g.out.mono ?_;rintro e w1 ⟨rfl,rfl⟩;go_wp2_with fail;refine x.out.mono ?_;rintro e w2 ⟨v,rfl,i,d,u⟩;obtain ⟨C,B,rfl⟩:=ae.ck i;have A:=hT (yI i (by rw [mG,<-y.out];omega));have p:=hT λk hk=>A6 z.out.size (d k hk);have h:=zT z u;clear i u d x g;go_wp2_with fail;refine A.out.mono ?_;rintro e w3 ⟨rfl,_,s⟩;have q:=hT (h.out.trans (s.below h.out.size p.out));have E:Hid ((((TC (sorted l)).length:Int) == (n:Int))= decide l.Nodup):=hT (by have h1:=Je (Jb l);rw [mG,show (sorted l).Nodup↔l.Nodup from (Ve _ _).nodup_iff]at h1;rw [y.out,Bool.eq_iff_iff,beq_iff_eq,decide_eq_true_eq,<-h1];omega);clear s;go_wp2;go_ret;exact ⟨by rw [E.out];rfl,q.out⟩
end So
end
section
namespace So
open Go.RowKit
def il (w:World) (a:Option Addr) (l:zY):Prop:=l≠ []->∃b off,a= some ⟨b,off,none⟩/\b<w.heap.size/\∀i c,l[i]?= some c->w.cell? ⟨b,off+i*2,none⟩= some (zI c.1)/\w.cell? ⟨b,off+i*2+1,none⟩= some (.string (Om.B c.2))
variable{w:World}{a:Option Addr}{l:zY}
theorem il.keep {F:Nat->Prop} {w':World} (h:il w a l) (c:ae.Fr F w w') (e:∀g off,l≠ []->a= some ⟨g,off,none⟩->¬F g):il w' a l:=λhne=>by obtain ⟨g,off,d,b,f⟩:=h hne;refine ⟨g,off,d,ti b c.size,λi x hx=>?_⟩;rw [dJ c b (e g off hne d),dJ c b (e g off hne d)];exact f i x hx
theorem il.below {w':World} (h:il w a l) (hb:zB w w'):il w' a l:=h.keep (F:=λ_=>False) (ae.Fr.ax hb) λ_ _ _ _ h=>h
structure jN (w:World) (P:Nat) (L:zN) (k:Nat) (v:Value) (o:Tb.Ob) (wr:World):Prop where
 gr:Tb.cA w (L.take k) v k wr
 tm:Tb.Tm wr o []
 op:o.p= P
 new:∀j,o.fp j->w.heap.size<=j
 dj:∀j,v.ownBlock= some j->¬o.fp j
variable{k:Nat}{v:Value}{o:Tb.Ob}{wr:World}
theorem jN.put {P:Nat} {L:zN} {w1 w2:World} (h:jN w P L k v o wr) (e:zB wr w1) (hw:Tb.gT o [] w1 w2):∃o',jN w P L k v o' w2/\ae.Fr o.fp w1 w2:=by
 obtain ⟨o',i,c⟩:=hw;have f:=h.gr.below.size;have a:∀j,v.ownBlock= some j->j<wr.heap.size:=λj hj=>by obtain ⟨cur,g⟩:=ae.bV h.gr.row j hj;exact ae.lt_of_heap g
 have b:=h.gr.below.trans (e.mono f);refine ⟨o',⟨⟨ae.bc h.gr.row λj hj=>?_,h.gr.len,h.gr.new,?_⟩,i,c.p.trans h.op,λj hj=>?_,λj hj ho=>?_⟩,c.fr⟩;· have d:=a j hj;exact (c.fr.block j (ti d e.size) (h.dj j hj)).trans (e.block j d)
 ·exact b.trans (c.fr.below b.size h.new)
 ·rcases c.fp j hj with h1|h1;· exact h.new j h1
  ·exact A6 b.size h1
 ·rcases c.fp j ho with h1|h1;· exact h.dj j hj h1
  ·have:=a j hj;have:=e.size;omega
theorem jN.add {P:Nat} {L:zN} {v':Value} {w':World} {y:Int} (h:jN w P L k v o wr) (f:L[k]?= some y) (h1:w'.ownsRow 0 3 1 v' (k+1) (Tb.ag (L.take k ++ [y]))) (d:ae.Fr (λj=>v.ownBlock= some j) (wr.alloc (hV #[zI y] 3)) w') (c:∀j,v'.ownBlock= some j->v.ownBlock= some j\/(wr.alloc (hV #[zI y] 3)).heap.size<=j):jN w P L (k+1) v' o w':=by
 have b:zB wr (wr.alloc (hV #[zI y] 3)):=zA;have a:L.take (k+1)= L.take k ++ [y]:=by obtain ⟨i,g⟩:=C2.1 f;rw [TD i,g]
 refine ⟨by rw [a];exact h.gr.add h1 d c,(h.tm.below b).keep d λj hj he=>h.dj j he hj,h.op,h.new,λj hj ho=>?_⟩;rcases c j hj with e|e;· exact h.dj j e ho
 ·have:=h.tm.lt j ho;have:(wr.alloc (hV #[zI y] 3)).heap.size= wr.heap.size+1:=by simp
  omega
theorem KZ (k:Int):Tb.put [] k= ([],0,if 0<=k/\k<=2147483646 then 111 else 1):=by
 by_cases h:0<=k/\k<=2147483646;· rw [if_pos h,Tb.pw h (by rw [Tb.ic];intro _ hm;cases hm) (by rfl)]
 ·rw [if_neg h,Tb.pq h]
variable{m:zN}{g:Nat}{c:Int×List UInt8}
theorem K0 (a:l[k]?= some c) (h:iD m g c= false):iE m g l= false:=by unfold iE;rw [Bool.and_eq_false_iff];left;rw [List.all_eq_false];exact ⟨c,P1 a,by rw [h];decide⟩
theorem ux (wr W:World) (c:Int×List UInt8) (h:wr.alloc (hV #[zI c.1, .string (Om.B c.2)] 181)= W): zB wr W/\W.heap[wr.heap.size]?= some (hV #[zI c.1, .string (Om.B c.2)] 181 (0,0)):=by subst h;exact ⟨zA,heap_alloc_new wr _⟩
variable{b:Bk}{p:Pa}{inv:Bool}{st:Dm.St}
theorem K3 (h:Sk w b p inv st m) (hp:p.Ok) {l:zY} (n c:Nat) (hn:n= l.length) (af:n<=1048576) (a:Option Addr) (hr:il w a l) (C:∀x∈l,(PO lg x.1).wf): zF 179 #[zP b.q, .slice a n c] w (zJ (.bool (iE m p.g l)) w):=by
 have Q:=hT h;have HN:=hT hn;have HR:Hid (∀wr,zB w wr->il wr a l):=hT λwr S=>hr.below S;have bb:=hT C;have NW:=hT (Tb.je 0 w);obtain ⟨L,hL⟩:=eX1 (l.map (·.1));have HL:=hT hL;obtain ⟨-, -, -, -, -, -, -,c7, -, -, -,cf⟩:=h.reads;have ao:=hp.ag.g2;obtain ⟨G,hG⟩:=eX1 p.g;rw [<-hG]at c7 ao⊢;have bx:lg.wrap ((G:Int) *64)= (G:Int) *64:=rr _ (by omega);clear h hn hr C hL hp hG;go_enter func179,ntmps179;go_wp2_with fail;refine NW.out.mono ?_;rintro e w1 ⟨⟨o,rfl,ht,K⟩,U⟩;have M0:Hid (jN w o.p L 0 (AF none 0 0) o w1):=hT ⟨by rw [Tj];exact Tb.cA.nil U,ht,rfl,K,λj hj=>by cases hj⟩;obtain ⟨P,hP⟩:=eX1 o.p;rw [<-hP]at M0⊢;clear ht K U hP NW c7 cf;go_wp2_with fail;go_loopw [21,7] (λi s wr=>∃(k:Nat) (v:Value) (o:Tb.Ob),i= .int lg k/\s= v/\k<=n/\Hid (jN w P L k v o wr/\∀x∈l.take k,iD m G x= true)) (λi _ _=>n - (wo i).toNat);case atStart=>exact ⟨0,_,o,rfl,rfl,yb _,hT ⟨M0.out,λx H=>by simp at H⟩⟩
 case round=>
  obtain ⟨k,v,o1,rfl,ab,hk,f⟩:=hrel;subst ab;by_cases bG:k<n;·
   have bt:lg.wrap ((k:Int) +1)= ((k+1:Nat):Int):=by rw [rr _ (by omega)];rfl
   obtain ⟨x,H⟩:∃x,l[k]?= some x:=⟨l[k]'(by have:=HN.out;omega),C1 _⟩;obtain ⟨g,off,aw,S,hc⟩:=(HR.out wr f.out.1.gr.below) (λe=>by rw [e]at H;simp at H);subst aw;obtain ⟨bS,bP⟩:=hc k x H;obtain ⟨W1,F⟩:=eX2 (wr.alloc (hV #[.int lg x.1, .string (Om.B x.2)] 181));obtain ⟨N,hX⟩:=ux wr W1 x F;obtain ⟨Y,X,W⟩:=bR hX;have C:=bb.out x (P1 H);have t:=Tb.qi (f.out.1.tm.below N) x.1 C;rw [f.out.1.op,KZ]at t;have HX:=hT H;have bl:=hT N;have O:=hT C;have I:Hid (∀w2,Tb.gT o1 [] W1 w2->∃J,jN w P L k _ J w2/\w2.heap[wr.heap.size]?= some (hV #[.int lg x.1, .string (Om.B x.2)] 181 (0,0))):=hT λw2 hw=>by obtain ⟨J,d,hf⟩:=f.out.1.put bl.out hw;refine ⟨J,d,(hf.block _ (ae.lt_of_heap hX) λhfp=>?_).trans hX⟩;have:=f.out.1.tm.lt _ hfp;omega
   have bf:Hid (L[k]?= some x.1):=hT (by rw [HL.out,RI,H];rfl);have NO:Hid (iD m G x= false->iE m G l= false):=hT λh=>K0 H h;have SN:Hid (iD m G x= true->∀y∈l.take (k+1),iD m G y= true):=hT λh y R=>by
    obtain ⟨h1,d⟩:=C2.1 HX.out;rw [TD h1,RR,H5]at R;rcases R with R|R;· exact f.out.2 y R
    ·rw [R,d];exact h
   clear H S N hX hc C f;by_cases u:0<=x.1/\x.1<=2147483646;· rw [if_pos u]at t;have t:=hT t;cases hfi:(Tb.find m x.1) with
    | some j => have V:=hT (NO.out (by simp [iD,hfi]));have HF:=hT hfi;clear u hfi;go_wp2_with fail;clear F Y X W;refine zg t.out λw2 hw=>?_;obtain ⟨J,d,r⟩:=I.out w2 hw;have A:=jL (Q.out.below d.gr.below) x.1 O.out;rw [HF.out]at A;have A:=hT A;obtain ⟨y0,y1,yf⟩:=bR r;have z:=hT d.gr.below;clear d r hw;go_wp2_with fail;refine zh A.out ?_;go_wp2_with fail;go_ret;exact ⟨by rw [V.out];rfl,z.out⟩
    | none =>
    have HF:=hT hfi;by_cases D:x.2.length= 64*G;·
     have OK:=hT (SN.out (nM.2 ⟨u,hfi,D⟩));have ad:(((Om.B x.2).size:Int) != (G:Int) *64)= false:=by rw [Om.aG,D];simp;omega
     clear u hfi D;go_wp2_with fail;clear F Y X W;refine zg t.out λw2 hw=>?_;obtain ⟨J,d,r⟩:=I.out w2 hw;have A:=jL (Q.out.below d.gr.below) x.1 O.out;rw [HF.out]at A;have A:=hT A;obtain ⟨y0,y1,yf⟩:=bR r;have M2:=hT d;have bg:=hT d.gr.len;obtain ⟨va,Z,hv⟩:=ae.ck d.gr.row;subst hv;have ba:=hT (d.gr.own x.1);clear d r hw;go_wp2_with fail;refine zh A.out ?_;go_wp2_with (at_builtin;refine Tb.mH rfl (.tmp 47) (.tmp 50) 59 underlying59 rfl (.slice va k Z) k (L.take k) rfl bg.out (by omega) ba.out w2.heap.size x.1 rfl (by simp) ?_;intro v' w4 h1 d h3;have G4:=hT (M2.out.add bf.out h1 d h3);clear h1 d h3);go_roundw;case rel=>exact ⟨k+1,_,J,rfl,rfl,by omega,hT ⟨G4.out,OK.out⟩⟩
     case measure=>simp [wo];omega
    ·have V:=hT (NO.out (by simp [iD,D]));have ad:(((Om.B x.2).size:Int) != (G:Int) *64):=by rw [Om.aG];simp;omega
     clear u hfi D;go_wp2_with fail;clear F Y X W;refine zg t.out λw2 hw=>?_;obtain ⟨J,d,r⟩:=I.out w2 hw;have A:=jL (Q.out.below d.gr.below) x.1 O.out;rw [HF.out]at A;have A:=hT A;obtain ⟨y0,y1,yf⟩:=bR r;have z:=hT d.gr.below;clear d r hw;go_wp2_with fail;refine zh A.out ?_;go_wp2_with fail;go_ret;exact ⟨by rw [V.out];rfl,z.out⟩
   ·rw [if_neg u]at t;have t:=hT t;have V:=hT (NO.out (by simp only [iD,u,decide_false,T5]));clear u;go_wp2_with fail;clear F Y X W;refine zg t.out λw2 hw=>?_;obtain ⟨J,d,r⟩:=I.out w2 hw;obtain ⟨y0,y1,yf⟩:=bR r;have z:=hT d.gr.below;clear d r hw;go_wp2_with fail;go_ret;exact ⟨by rw [V.out];rfl,z.out⟩
  ·obtain rfl:k= n:=by omega
   have M:L.length= k:=by rw [HL.out,PN,<-HN.out]
   obtain ⟨va,Z,hv⟩:=ae.ck f.out.1.gr.row;subst hv;have hints:Tb.Ints wr (.slice va k Z) L:=by have h1:=f.out.1.gr.row;rw [OP (by omega)]at h1;show Tt _ _ _ _ _ _ _;rw [M];exact h1
   obtain ⟨bs,bq,e',T⟩:=Tb.Rd.own hints;injection e' with e1 e2 e3;subst e1;subst e3;have AP:=KX k Z M.symm af T;have E:decide L.Nodup= iE m G l:=by have:=OP (by rw [<-HN.out];exact nm _);have d:=f.out.2;rw [this]at d;unfold iE;rw [TX.2 d,T4,HL.out]
   rw [E]at AP;have bo:=hT AP;have bm:=hT f.out.1.gr.below;clear f hints T E AP M e2;go_wp2_with fail;refine zg bo.out λw2 S=>?_;have z:=zT bm S;clear S;go_wp2_with fail;go_ret;exact ⟨rfl,z.out⟩
structure Pl (w:World) (b:Bk) (ps:List Nat) (v:Value) (k:Nat) (wr:World):Prop where
 row:wr.ownsRow 0 3 1 v k (Tb.ag (ps.map λ (q:Nat)=>(q:Int)))
 len:k= ps.length
 new:∀j,v.ownBlock= some j->w.heap.size<=j
 dj:∀j,v.ownBlock= some j->¬b.fp j
theorem Pl.nil (w:World) (b:Bk) (wr:World):Pl w b [] (AF none 0 0) 0 wr:=⟨Ts _ _ _ _,rfl,λj hj=>(by cases hj),λj hj=>(by cases hj)⟩
variable{ps:List Nat}
theorem Pl.lt (h:Pl w b ps v k wr) (j:Nat) (c:v.ownBlock= some j):j<wr.heap.size:=by obtain ⟨cur,a⟩:=ae.bV h.row j c;exact ae.lt_of_heap a
theorem Pl.move {b':Bk} {w1:World} (h:Pl w b ps v k wr) (a:Sp b b' wr w1):Pl w b' ps v k w1:=by
 refine ⟨ae.bc h.row λj hj=>a.fr.block j (h.lt j hj) (h.dj j hj),h.len,h.new,λj hj hb=>?_⟩;rcases a.fp j hb with h1|h1;· exact h.dj j hj h1
 ·have:=h.lt j hj;omega
theorem Pl.below {w1:World} (h:Pl w b ps v k wr) (hb:zB wr w1):Pl w b ps v k w1:=h.move (Sp.ax hb)
theorem Pl.own (h:Pl w b ps v k wr) (y:Int):(wr.alloc (hV #[zI y] 3)).ownsRow 0 3 1 v k (Tb.ag (ps.map λ(q:Nat)=>(q:Int))):= ae.bc h.row λj hj=>PC _ _ _ (h.lt j hj)
theorem Pl.add {b0:Bk} {v':Value} {w':World} {i:Nat} (h:Pl w b ps v k wr) (hk:Sk wr b p inv st m) (a:Sp b0 b w wr) (h1:w'.ownsRow 0 3 1 v' (k+1) (Tb.ag (ps.map (λ(q:Nat)=>(q:Int)) ++ [(i:Int)]))) (n:ae.Fr (λj=>v.ownBlock= some j) (wr.alloc (hV #[zI i] 3)) w') (f:∀j,v'.ownBlock= some j->v.ownBlock= some j\/(wr.alloc (hV #[zI i] 3)).heap.size<=j):Pl w b (ps ++ [i]) v' (k+1) w'/\Sk w' b p inv st m/\Sp b0 b w w':=by
 have c:zB wr (wr.alloc (hV #[zI i] 3)):=zA;have l:(wr.alloc (hV #[zI i] 3)).heap.size= wr.heap.size+1:=by simp
 have d:=(ae.Fr.ax c).trans n (λ_ _ e=>e);have g:=a.fr.size;refine ⟨⟨by rw [R0];exact h1,by rw [h.len];simp,λj hj=>?_,λj hj hb=>?_⟩,hk.keep d λj hj e=>h.dj j e hj,⟨a.fr.trans d λj hj e=>?_,a.fp,a.q,a.dp,a.df⟩⟩;·
  rcases f j hj with e|e;· exact h.new j e
  ·omega
 ·rcases f j hj with e|e;· exact h.dj j e hb
  ·have:=hk.lt j hb;omega
 ·have:=h.new j e;omega
theorem K5 {i:Nat} (a:l[k]?= some c) (hi:Tb.bn (bA m (l.take k))= some i): bA m (l.take (k+1))= (bA m (l.take k)).set i c.1/\ak m (l.take (k+1))= ak m (l.take k) ++ [i]/\cd p (ak m (l.take (k+1))) (l.take (k+1))= cd p (ak m (l.take k)) (l.take k) ++ [.wr (p.data i) c.2]:=by
 obtain ⟨h1,b⟩:=C2.1 a;have e:l.take (k+1)= l.take k ++ [c]:=by rw [TD h1,b]
 rw [e,Fu,Fv,hi];refine ⟨rfl,rfl,?_⟩;unfold cd;rw [Yj (by rw [nL]),R0];rfl
theorem K6 (m:zN) (a b:zY):ak m (a ++ b)= ak m a ++ ak (bA m a) b:=by induction a generalizing m with
 | nil=>rfl
 | cons c a ih => show _ :: ak _ (a ++ b)= (_ :: ak _ a) ++ _;rw [ih];rfl
theorem K7 {i:Nat} (a:l[k]?= some c) (hi:Tb.bn (bA m (l.take k))= some i):
    ∃B,cd p (ak m l) l= cd p (ak m (l.take k)) (l.take k) ++ .wr (p.data i) c.2 :: B:=by
  obtain ⟨h1,b⟩:=C2.1 a
  have e:l= l.take k ++ c :: l.drop (k+1):=by
    conv=>lhs;rw [←T8 k l,UM h1,b]
  refine ⟨cd p (ak ((bA m (l.take k)).set i c.1) (l.drop (k+1))) (l.drop (k+1)),?_⟩
  conv=>lhs;rw [e]
  rw [K6]
  unfold cd
  rw [Yj (by rw [nL]),R0]
  congr 1
  show ((((Tb.bn (bA m (l.take k))).getD 0) :: ak ((bA m (l.take k)).set ((Tb.bn (bA m (l.take k))).getD 0) c.1) (l.drop (k+1))).zip (c :: l.drop (k+1))).map _= _
  rw [hi]
  rfl
theorem zy (p:Pa) {l:zY} (a:∀c∈l,c.2.length= 64*p.g) (ps:List Nat):((cd p ps l).map sec).sum<=l.length*p.g:=by induction l generalizing ps with
 | nil=>unfold cd;rw [List.zip_nil_right];exact yb _
 | cons c l ih => cases ps with
 | nil=>exact yb _
 | cons q ps =>
 have h1:=ih (λc hc=>a c (SC _ hc)) ps;have d:=a c SD;show sec (Op.wr (p.data q) c.2) + ((cd p ps l).map sec).sum<=(l.length+1) *p.g;have b:sec (Op.wr (p.data q) c.2)= p.g:=by show c.2.length / 64= p.g;rw [d];omega
 rw [b,TV];omega
structure oC (w:World) (b0:Bk) (p:Pa) (inv:Bool) (st:Dm.St) (m:zN) (l:zY) (k:Nat) (v:Value) (wr:World):Prop where
 done:(aa st (cd p (ak m (l.take k)) (l.take k))).2= 0
 ex:∃b,Sk wr b p inv (aa st (cd p (ak m (l.take k)) (l.take k))).1 (bA m (l.take k))/\Sp b0 b w wr/\Pl w b (ak m (l.take k)) v k wr
theorem K8 {A B D:List Op} {o:Op} (a:∃C,D= A ++ o :: C) (h:(aa st A).2= 0) (b:(step (aa st A).1 o).2≠0):aa st (D ++ B)= step (aa st A).1 o:=by obtain ⟨C,rfl⟩:=a;rw [NR,TN];exact qu h b
theorem K9 {A B:List Op} {o:Op} (h:(aa st A).2= 0): ((step (aa st A).1 o).2≠0->aa st ((A ++ [o]) ++ B)= step (aa st A).1 o)/\((step (aa st A).1 o).2= 0->aa st ((A ++ [o]) ++ B)= aa (step (aa st A).1 o).1 B):=by
 constructor;· intro a;rw [NR];exact qu h a
 ·intro a;have e:=mI (o:=o) h;rw [ia _ (by rw [e];exact a),e]
structure oD (wa wx:World) (g:Nat) (s l:Value):Prop where
 aL:zB wa wx
 c0:wx.cell? (zD g 0)= some s
 c1:wx.cell? (zD g 1)= some l
 new:wa.heap.size<=g
theorem uy {wa w3:World} (h:zB wa w3) (s l:Value):oD wa (w3.alloc (hV #[s,l] 65)) w3.heap.size s l:=by obtain ⟨c0,c1,_⟩:=bR (heap_alloc_new w3 (hV #[s,l] 65));exact ⟨h.alloc h.size _,c0,c1,h.size⟩
theorem uz {wa w3:World} {z0 z1:Value} (h:zB wa w3) (b:w3.heap[g]?= some (hV #[z0,z1] 65 (0,0))) (a:wa.heap.size<=g) (s l:Value): oD wa ((w3.setCell ⟨g,0,none⟩ s).setCell ⟨g,1,none⟩ l) g s l:=by obtain ⟨c0,c1,_⟩:=bR (fX b s l);exact ⟨fY h a _ _,c0,c1,a⟩
variable{q:Nat}
theorem cY (h:q<g) (x y:Value) (j:Nat):((w.setCell ⟨g,0,none⟩ x).setCell ⟨g,1,none⟩ y).cell? (zD q j)= w.cell? (zD q j):=yA (by omega) x y j
theorem aO (h:q<w.heap.size) (o:Obj) (j:Nat):(w.alloc o).cell? (zD q j)= w.cell? (zD q j):=TZ (a:=(zD q j)) (PC _ _ _ h)
theorem cw (w:World) (p:Addr):w.drew.cell? p= w.cell? p:=rfl
theorem bT {W0 X w3:World} (hb:zB X w3) (h:zB W0 X):zB W0 w3:=h.trans (hb.mono h.size)
def zG (w:World) (b b1:Bk) (p:Pa) (inv:Bool) (sk:Dm.St) (m':zN) (ps:List Nat) (v:Value) (k B:Nat) (x:Int×List UInt8) (w2:World):Prop:= ∃b2,Sk w2 b2 p inv sk m'/\Sp b b2 w w2/\Pl w b2 ps v k w2/\w2.heap[B]?= some (hV #[zI x.1, .string (Om.B x.2)] 181 (0,0))/\¬b2.fp B/\b2.t.p= b1.t.p
variable{W:World}
theorem K_ {W1 w2:World} {b1:Bk} {sk:Dm.St} {m1 m':zN} {x:Int×List UInt8} (k1:Sk wr b1 p inv sk m1) (s1:Sp b b1 w wr) (pl:Pl w b1 ps v k wr) (c:zB wr W1) (l:W1.heap[wr.heap.size]?= some (hV #[zI x.1, .string (Om.B x.2)] 181 (0,0))) (d:zB W1 W) (hw:Tb.gT b1.t m' W w2):zG w b b1 p inv sk m' ps v k wr.heap.size x w2:=by
 obtain ⟨o,n,g⟩:=hw;have a:=ae.lt_of_heap l;have h:=c.trans (d.mono c.size);have m:=k1.below h;have f:=pl.below h;obtain ⟨h1,i⟩:=m.table n g;have j:¬b1.fp wr.heap.size:=λe=>TL _ (k1.lt _ e);refine ⟨_,h1,s1.trans ((Sp.ax h).trans i),f.move i,?_,λe=>?_,g.p⟩;· rw [g.fr.block _ (ti a d.size) (λe=>j (.inr (.inr e))),d.block _ a,l]
 ·rcases i.fp _ e with e|e;· exact j e
  ·have:=d.size;omega
def zZ (w:World) (b:Bk) (p:Pa) (inv:Bool) (st':Dm.St) (m':zN) (ps:List Nat) (v:Value) (k q:Nat) (dp g B:Nat) (D L T:Value) (w6:World):Prop:= (∃b3,Sk w6 b3 p inv st' m'/\Sp b b3 w w6/\Pl w b3 ps v k w6)/\w6.cell? (zD q 3)= some (zP dp)/\w6.cell? (zD g 0)= some D/\w6.cell? (zD B 1)= some T
theorem La {w2 W5 w6:World} {b2:Bk} {sk st':Dm.St} {m':zN} {B:Nat} {D L T:Value} (k2:Sk w2 b2 p inv sk m') (s2:Sp b b2 w w2) (pl2:Pl w b2 ps v k w2) (sp:oD w2 W5 g D L) (s:W5.cell? (zD B 1)= some T) (i:¬b2.fp B) (h:zB W5 W) (hw:ae.ai b2.d st' W w6):zZ w b p inv st' m' ps v k b.q b.d.p g B D L T w6:=by
 have f:=sp.aL.trans (h.mono sp.aL.size);have r:=k2.below f;have c:=pl2.below f;obtain ⟨x,hd,l⟩:=hw;obtain ⟨h1,o⟩:=r.iH hd l;have a:=s2.trans ((Sp.ax f).trans o);have n:∀(q j:Nat) (y:Value),W5.cell? (zD q j)= some y->¬b2.d.fp q->w6.cell? (zD q j)= some y:=λq j y hy hn=>by have m:=Vt _ _ hy;have u:=h.block q m;have t:=l.fr.block q (ti m h.size) hn;rw [gV (p:=(zD q j)) (t.trans u)];exact hy
 refine ⟨⟨_,h1,a,c.move o⟩,?_,n _ _ _ sp.c0 (λe=>?_),n _ _ _ s (λe=>i (.inr (.inl e)))⟩;· have:=h1.reads;rw [a.q,a.dp]at this;exact this.2.2.2.1
 ·have:=k2.lt g (.inr (.inl e));have:=sp.new;omega
def z_ (w:World) (b:Bk) (p:Pa) (inv:Bool) (st:Dm.St) (m:zN) (l:zY) (k:Nat) (v:Value) (i:Nat) (w6:World):Prop:= w6.ownsRow 0 3 1 v k (Tb.ag ((ak m (l.take k)).map λ(q:Nat)=>(q:Int)))/\(ak m (l.take k)).length= k/\(w6.alloc (hV #[zI i] 3)).ownsRow 0 3 1 v k (Tb.ag ((ak m (l.take k)).map λ(q:Nat)=>(q:Int)))/\ ∀ v' w4, w4.ownsRow 0 3 1 v' (k + 1) (Tb.ag ((ak m (l.take k)).map (λ(q : Nat) => (q : Int)) ++ [(i : Int)])) -> ae.Fr (λj => v.ownBlock = some j) (w6.alloc (hV #[zI (i : Int)] 3)) w4 -> (∀j,v'.ownBlock= some j->v.ownBlock= some j\/(w6.alloc (hV #[zI i] 3)).heap.size<=j)->oC w b p inv st m l (k+1) v' w4
theorem Lb (h:Sk w b p inv st m) (hp:p.Ok) (hm:m.length= p.N) {l:zY} (ha:ee m l) (hl:∀c∈l,c.2.length= 64*p.g) (n c:Nat) (G:n= l.length) (eU:n≤1048576) (hP:st.P.length≤68719476736)
    (a:Option Addr) (hr:il w a l) (bg:∀g off,l≠ []→a= some ⟨g,off,none⟩→¬b.fp g):
    zF 181 #[zP b.q, .slice a n c] w fun e w'=>
      ∃X m',e= aP X∧X= (aa st (aV p m l (aI (ak m l)))).2∧ay b p inv (aa st (aV p m l (aI (ak m l)))).1 m' w w'∧(X= 0→m'= bA m l):=by
  have A:=added ha
  have HN:=hT G
  have HR:Hid (∀wr,ae.Fr b.fp w wr→il wr a l):=hT fun wr hf=>hr.keep hf bg
  have ey:Hid (p.Ok∧m.length= p.N∧ee m l∧(∀c∈l,c.2.length= 64*p.g)∧st.P.length≤68719476736∧Dm.Ok st):=hT ⟨hp,hm,ha,hl,hP,h.dk.ok⟩
  have H0:Hid (oC w b p inv st m l 0 (AF none 0 0) w):=hT ⟨by rw [Tj];rfl,b,by rw [Tj];exact h,Sp.refl _ _,by rw [Tj];exact Pl.nil _ _ _⟩
  -- what stands behind the last round
  have dm:Hid (∀(wr:World) (v:Value),oC w b p inv st m l n v wr→∃x,zF 214 #[zP b.q] wr fun e w2=>e= aP x∧
      (x≠0→∃m',(aa st (aV p m l (aI (ak m l)))).2= x∧ay b p inv (aa st (aV p m l (aI (ak m l)))).1 m' w w2)∧
      (x= 0→∃a' c' y,v= .slice a' n c'∧zF 222 #[zP b.q, .slice a' n c'] w2 fun e w3=>e= aP y∧y= (aa st (aV p m l (aI (ak m l)))).2∧ay b p inv (aa st (aV p m l (aI (ak m l)))).1 (bA m l) w w3)):=hT fun wr v C=>by
    obtain ⟨b1,S,s1,pl⟩:=C.ex
    have u:=C.done
    have cc:l.take n= l:=OP (by omega)
    rw [cc]at S pl u
    have V:=kS h.dk.ok (cd p (ak m l) l)
    have bx:=zy p hl (ak m l)
    have bl:=hp.ag.g2
    have hmul:l.length*p.g≤1048576*128:=Nat.mul_le_mul (by omega) bl
    have FL:=tP S (by omega)
    have fe:=sy S.dk.ok .fl
    have eT:sec .fl= 0:=rfl
    rw [s1.q]at FL
    obtain ⟨r1,r2⟩:=K9 (B:=aQ p (bA m l) (aI (ak m l)) ++ [.fl]) (o:= .fl) u
    refine ⟨(step (aa st (cd p (ak m l) l)).1 .fl).2,FL.mono ?_⟩
    rintro e w2 ⟨rfl,hw⟩
    refine ⟨rfl,fun K=>⟨bA m l,?_,?_⟩,fun K=>?_⟩
    · show (aa st ((cd p (ak m l) l ++ [.fl]) ++ (aQ p (bA m l) (aI (ak m l)) ++ [.fl]))).2= _
      rw [r1 K]
    · show ay b p inv (aa st ((cd p (ak m l) l ++ [.fl]) ++ (aQ p (bA m l) (aI (ak m l)) ++ [.fl]))).1 _ w w2
      rw [r1 K]
      exact ay.trans s1 hw
    · obtain ⟨b2,E,s2⟩:=hw
      have hlen:(ak m l).length= n:=by rw [nL,G]
      have j:=pl.move s2
      have hints:Tb.Ints w2 v ((ak m l).map fun (q:Nat)=>(q:Int)):=by
        show Tt _ _ _ _ _ _ _
        rw [PN,hlen]
        exact j.row
      obtain ⟨a',c',rfl,ei⟩:=Tb.Rd.own hints
      rw [PN,hlen]
      refine ⟨a',c',(aa st (aV p m l (aI (ak m l)))).2,rfl,?_⟩
      have:=Jn E hp (by rw [xp,hm]) (ps:=ak m l) (fun q hq=>by rw [←hm];exact (A.free q hq).1) (by omega) (by omega) a' c' ei
      rw [hlen,s2.q,s1.q]at this
      refine zg this fun w3 hw3=>?_
      have e4:aa st (aV p m l (aI (ak m l)))= aa (step (aa st (cd p (ak m l) l)).1 .fl).1 (aQ p (bA m l) (aI (ak m l)) ++ [.fl]):=r2 K
      rw [e4]
      exact ⟨rfl,rfl,ay.trans (s1.trans s2) hw3⟩
  -- a round
  have cu:Hid (∀(wr:World) (k:Nat) (v:Value),k<n→oC w b p inv st m l k v wr→∃(x:Int×List UInt8) (g off i:Nat) (b1:Bk),a= some ⟨g,off,none⟩∧i<p.N∧x.2.length= 64*p.g∧
      wr.cell? ⟨g,off+k*2,none⟩= some (.int lg x.1)∧wr.cell? ⟨g,off+k*2+1,none⟩= some (.string (Om.B x.2))∧b1.q= b.q∧Sk wr b1 p inv (aa st (cd p (ak m (l.take k)) (l.take k))).1 (bA m (l.take k))∧
      (∀W1,wr.alloc (hV #[.int lg x.1, .string (Om.B x.2)] 181)= W1→∀W,zB W1 W→zF 218 #[zP b1.t.p, .int lg x.1] W fun e w2=>e= zV (.int lg i) (.int lg 0)∧
        zG w b b1 p inv (aa st (cd p (ak m (l.take k)) (l.take k))).1 (bA m (l.take (k+1))) (ak m (l.take k)) v k wr.heap.size x w2)∧
      ∃ X, ∀ (w2 W5 : World) (b2 : Bk) (L : Nat), Sk w2 b2 p inv (aa st (cd p (ak m (l.take k)) (l.take k))).1 (bA m (l.take (k + 1))) → Sp b b2 w w2 → Pl w b2 (ak m (l.take k)) v k w2 → oD w2 W5 L (.int lg (p.data i : Int)) (.int lg (p.g : Int)) →
        W5.cell? (zz wr 1)= some (.string (Om.B x.2))→¬b2.fp wr.heap.size→∀W,zB W5 W→zF 92 #[zP b.d.p, .int lg (p.data i:Int), .string (Om.B x.2)] W fun e z=>e= nf (.int lg X)∧
        (∃st',zZ w b p inv st' (bA m (l.take (k+1))) (ak m (l.take k)) v k b.q b.d.p L wr.heap.size (.int lg (p.data i:Int)) (.int lg p.g) (.string (Om.B x.2)) z)∧
        (X= 0→z_ w b p inv st m l k v i z)∧
        (X≠0→(aa st (aV p m l (aI (ak m l)))).2= X∧ay b p inv (aa st (aV p m l (aI (ak m l)))).1 (bA m (l.take (k+1))) w z)):=hT fun wr k v hk C=>by
    obtain ⟨x,K⟩:∃x,l[k]?= some x:=⟨l[k]'(by omega),C1 _⟩
    obtain ⟨b1,S,s1,pl⟩:=C.ex
    have u:=C.done
    have U:=T8 k l
    have bm:l.drop k= x :: l.drop (k+1):=by
      obtain ⟨h1,h2⟩:=C2.1 K
      rw [UM h1,h2]
    have cb:ee (bA m (l.take k)) (x :: l.drop (k+1)):=by
      have h1:ee m (l.take k ++ l.drop k):=by rw [U];exact ha
      have h2:=h1.app
      rwa [bm]at h2
    obtain ⟨i,ba,ao,I⟩:=cb.put
    have bP:i<p.N:=by rw [xp,hm]at ao;exact ao
    have eR:=cb.each x SD
    have ec:(PO lg x.1).wf:=by
      have eE:lg.min= -9223372036854775808:=rfl
      have eF:lg.max= 9223372036854775807:=rfl
      simp only [Lit.wf,N6,decide_eq_true_eq]
      omega
    obtain ⟨e1,e2,Q⟩:=K5 (p:=p) (m:=m) K ba
    have eg:=K7 (p:=p) (m:=m) K ba
    obtain ⟨g,off,bo,eW,hc⟩:=(hr.keep s1.fr bg) (fun e=>by rw [e]at K;simp at K)
    obtain ⟨bX,bS⟩:=hc k x K
    have bf:=hl x (P1 K)
    refine ⟨x,g,off,i,b1,bo,bP,bf,bX,bS,s1.q,S,fun W1 O W hW=>?_,(step (aa st (cd p (ak m (l.take k)) (l.take k))).1 (.wr (p.data i) x.2)).2,fun w2 W5 b2 L E s2 j sp hB hBn W hW=>?_⟩
    · obtain ⟨J,hX⟩:=ux wr W1 x O
      have hb:=J.trans (hW.mono J.size)
      have R:=Tb.qi (S.tm.below hb) x.1 ec
      rw [I]at R
      refine zg R fun w2 hw=>?_
      rw [e1]
      exact ⟨rfl,K_ S s1 pl J hX hW hw⟩
    · have V:=kS h.dk.ok (cd p (ak m (l.take k)) (l.take k))
      have bx:=zy p (l:=l.take k) (fun c hc=>hl c (List.mem_of_mem_take hc)) (ak m (l.take k))
      have bl:=hp.ag.g2
      have eZ:=hp.ag.g1
      have en:(l.take k).length≤1048576:=by rw [E4];omega
      have hmul:=Nat.mul_le_mul en bl
      have eG:=Pa.mo hp bP
      have eo:=hp.high
      have fs:=hp.ag.a1
      have WR:=ae.fC ((E.below (sp.aL.trans (hW.mono sp.aL.size))).dk) (p.data i:Int) x.2 (by omega) (by omega) (by omega)
      rw [s2.dp]at WR
      refine zg WR fun z hw=>?_
      have aw:=La E s2 j sp hB hBn hW hw
      refine ⟨rfl,⟨_,aw⟩,fun F=>?_,fun F=>?_⟩
      · obtain ⟨⟨b3,k3,s3,M⟩,_⟩:=aw
        have er:aa st (cd p (ak m (l.take (k+1))) (l.take (k+1)))= step (aa st (cd p (ak m (l.take k)) (l.take k))).1 (.wr (p.data i) x.2):=by rw [Q];exact mI u
        have eb:Sk z b3 p inv (aa st (cd p (ak m (l.take (k+1))) (l.take (k+1)))).1 (bA m (l.take (k+1))):=by rw [er];exact k3
        refine ⟨M.row,M.len.symm,M.own (i:Int),fun v' w4 h1 h2 h3=>?_⟩
        obtain ⟨q1,q2,q3⟩:=M.add eb s3 h1 h2 h3
        refine ⟨by rw [er];exact F,b3,q2,q3,?_⟩
        rw [e2]
        exact q1
      · obtain ⟨⟨b3,k3,s3,M⟩,_⟩:=aw
        have er:aa st (aV p m l (aI (ak m l)))= step (aa st (cd p (ak m (l.take k)) (l.take k))).1 (.wr (p.data i) x.2):=by
          unfold aV
          rw [NR]
          exact K8 eg u F
        rw [er]
        exact ⟨rfl,b3,k3,s3⟩
  clear h hp hm ha hl G hP hr bg A
  go_enter func181,ntmps181
  go_wp2
  go_loopw [11,4] (fun i s wr=>∃(k:Nat) (v:Value),i= .int lg k∧s= v∧k≤n∧Hid (oC w b p inv st m l k v wr)) (fun i _ _=>n - (wo i).toNat)
  case atStart=>exact ⟨0,_,rfl,rfl,yb _,H0⟩
  case round=>
    obtain ⟨k,v,rfl,ef,hk,C⟩:=hrel
    subst ef
    by_cases ej:k<n
    · have eS:lg.wrap ((k:Int) +1)= ((k+1:Nat):Int):=by rw [rr _ (by omega)];rfl
      obtain ⟨x,g,off,i,b1,bo,hi,bf,bX,bS,ca,S,I,X,bt⟩:=cu.out wr k _ ej C.out
      subst bo
      obtain ⟨W1,O⟩:=eX2 (wr.alloc (hV #[.int lg x.1, .string (Om.B x.2)] 181))
      have R:=hT (I W1 O)
      have cm:=hT bt
      obtain ⟨J,hX⟩:=ux wr W1 x O
      obtain ⟨x0,x1,xf⟩:=bR hX
      have bq:=S.below J
      obtain ⟨-, -, -, -, -, -, -, -, -, -,ch,cf⟩:=bq.reads
      rw [ca]at ch cf
      have CH:=hT (fun w1=>yB ey.out.1 hi w1)
      have ME:=hT (fun w1=>GG (p.data i:Int) (p.g:Int) w1)
      have MI:=hT (fun w1=>jd (i:Int) w1)
      clear I bt J hX bq S C hi bf ca
      go_upto_region 4 with fail
      clear O
      go_region_held3 (fun w'=>w'.cell? (zD b.q 10)= some (zP b1.t.p)∧w'.cell? (zz wr 0)= some (.int lg x.1))
        (first|(refine ⟨?_,?_⟩<;>assumption)|go_keep)
        (first
          | (go_at_call 218;refine zg (R.out _ zR.drew) fun w2 hw=>?_;have AP:=hT hw;obtain ⟨b2,E,s2,j,D,H,T⟩:=hw;have r2:=E.reads;rw [s2.q,T]at r2;obtain ⟨-, -, -, -, -, -, -, -, -, -,dw,pf⟩:=r2;obtain ⟨y0,y1,yf⟩:=bR D;clear E s2 j D H T)
          | (go_at_call 220;refine zh (MI.out _) ?_))
      clear x0 x1 xf ch cf dw pf y0 y1 yf R MI
      obtain ⟨b2,E,s2,j,D,H,T⟩:=AP.out
      have r2:=E.reads
      rw [s2.q]at r2
      obtain ⟨q0,q1,q2, -,q4,q5, -, -, -, -, -,qf⟩:=r2
      have QL:=hT (by have:=E.lt b2.q (.inl rfl);rw [s2.q]at this;exact this)
      have KK:Hid (∀W,zB w2 W→W.cell? (zD b.q 0)= some (.int lg p.a)∧W.cell? (zD b.q 1)= some (.int lg p.n)∧W.cell? (zD b.q 2)= some (.int lg p.g)∧W.cell? (zD b.q 4)= some (.int lg p.st)∧W.cell? (zD b.q 5)= some (.int lg p.ln)):=hT fun W hW=>by
        have r:=(E.below hW).reads
        rw [s2.q]at r
        exact ⟨r.1,r.2.1,r.2.2.1,r.2.2.2.2.1,r.2.2.2.2.2.1⟩
      have cp:Hid (Sk w2 b2 p inv (aa st (cd p (ak m (l.take k)) (l.take k))).1 (bA m (l.take (k+1)))∧Sp b b2 w w2∧Pl w b2 (ak m (l.take k)) _ k w2∧w2.heap[wr.heap.size]?= some (hV #[.int lg x.1, .string (Om.B x.2)] 181 (0,0))∧¬b2.fp wr.heap.size):=hT ⟨E,s2,j,D,H⟩
      clear E s2 j D H T AP
      go_upto_region 5 with fail
      go_cut [8]from 25 to 37 (fun s8 wx=>∃L,s8= zP L∧Hid (oD w2 wx L (.int lg (p.data i:Int)) (.int lg p.g)))
      case first=>
        go_region_held3 (fun w'=>w'.cell? (zD b.q 0)= some (.int lg p.a)∧w'.cell? (zD b.q 1)= some (.int lg p.n)∧w'.cell? (zD b.q 2)= some (.int lg p.g)∧w'.cell? (zD b.q 4)= some (.int lg p.st)∧w'.cell? (zD b.q 5)= some (.int lg p.ln))
          (first
            | (refine ⟨?_,?_,?_,?_,?_⟩<;>assumption)
            | (refine ⟨?_,?_,?_,?_,?_⟩<;>(rw [aO (w:=w4) (ti QL.out B4.out.size)];assumption))
            | (refine ⟨?_,?_,?_,?_,?_⟩<;>(rw [aO (w:=w3) (ti QL.out B3.out.size)];assumption))
            | (refine ⟨?_,?_,?_,?_,?_⟩<;>(rw [cw,aO (w:=w2) QL.out];assumption))
            | (refine ⟨?_,?_,?_,?_,?_⟩<;>(rw [cY (g:=w4.heap.size) (ti QL.out B4.out.size),aO (w:=w4) (ti QL.out B4.out.size)];assumption))
            | (refine ⟨?_,?_,?_,?_,?_⟩<;>(rw [cY (g:=w3.heap.size) (ti QL.out B3.out.size)];assumption))
            | (refine ⟨?_,?_,?_,?_,?_⟩<;>(rw [cY (g:=w2.heap.size) QL.out];assumption)))
          (first
            | (go_at_call 221;refine zg (ME.out _) fun w4 hb=>?_;have B4:Hid (zB w2 w4):=hT (bT hb (by first|exact B3.out|exact B3.out.alloc B3.out.size _));obtain ⟨g0,g1,g2,g4,g5⟩:=KK.out _ B4.out;first|(have N4:=hT (mP hb);obtain ⟨ea,dT,dx⟩:=bR N4.out)|(have N4:=hT (mQ hb N3.out);obtain ⟨ea,dT,dx⟩:=bR N4.out)|skip)
            | (go_at_call 215;refine zg (CH.out _) fun w3 hb=>?_;have B3:Hid (zB w2 w3):=hT (bT hb (by first|exact zR.drew|exact zA.drew));obtain ⟨f0,f1,f2,f4,f5⟩:=KK.out _ B3.out;first|(have N3:=hT (mO hb);obtain ⟨eP,eN,eM⟩:=bR N3.out)|skip))
        all_goals
          go_wp2_with fail
          go_meet
          first
          | exact ⟨_,rfl,hT (uz B4.out N4.out (by first|exact nm _|exact B3.out.size) _ _)⟩
          | exact ⟨_,rfl,hT (uy B4.out _ _)⟩
          | exact ⟨_,rfl,hT (espot_a B4.out _ _ _ _)⟩
      case rest=>
      obtain ⟨L,rfl,SP⟩:=hcut
      obtain ⟨W5,cg⟩:=eX2 wc
      rw [cg]at SP⊢
      clear cg q0 q1 q2 q4 q5 qf CH ME KK
      obtain ⟨E,s2,j,D,H⟩:=cp.out
      have af:=ae.lt_of_heap D
      have bs:=(SP.out.aL.block _ af).trans D
      obtain ⟨-,y1, -⟩:=bR bs
      have d0:=SP.out.c0
      have k5:=E.below SP.out.aL
      have r5:=k5.reads
      rw [s2.q,s2.dp]at r5
      obtain ⟨-, -, -,c3, -, -, -, -, -, -, -,cf⟩:=r5
      have Z:=cm.out w2 W5 b2 L E s2 j SP.out y1 H
      clear E s2 j D H af bs k5 cp cm
      by_cases F:X= 0
      · have WC:Hid (∀W,zB W5 W→zF 92 #[zP b.d.p, .int lg (p.data i:Int), .string (Om.B x.2)] W fun e z=>e= nf (.int lg 0)∧
            (z.cell? (zD b.q 3)= some (zP b.d.p)∧z.cell? (zD L 0)= some (.int lg (p.data i:Int))∧z.cell? (zz wr 1)= some (.string (Om.B x.2)))∧z_ w b p inv st m l k _ i z):=hT fun W hW=>(Z W hW).mono fun e z ⟨e1,⟨_,e2⟩,Q,_⟩=>⟨by rw [e1,F],e2.2,Q F⟩
        have NE:=hT (fun w1=>dv w1)
        clear Z F
        go_upto_region 6 with fail
        go_region_held3 (fun w'=>w'.cell? (zD b.q 3)= some (zP b.d.p)∧w'.cell? (zD L 0)= some (.int lg (p.data i:Int))∧w'.cell? (zz wr 1)= some (.string (Om.B x.2)))
          (first|(refine ⟨?_,?_,?_⟩<;>assumption)|go_keep)
          (first
            | (go_at_call 92;refine (WC.out _ zR.drew).mono ?_;rintro e z ⟨rfl,⟨z3,zg,zb⟩,G⟩;have AN:=hT G;clear G)
            | (go_at_call 168;refine zh (NE.out _) ?_))
        obtain ⟨ab,hlen,ad,bb⟩:=AN.out
        have eC:=hT hlen
        obtain ⟨va,vc,hv⟩:=ae.ck ab
        subst hv
        have et:=hT ad
        have eD:=hT bb
        clear ab hlen ad bb z3 zg zb c3 cf d0 y1 NE WC AN
        go_wp2_with (at_builtin;refine Tb.mH rfl (.tmp 48) (.tmp 50) 59 underlying59 rfl (.slice va k vc) k ((ak m (l.take k)).map fun (q:Nat)=>(q:Int)) rfl (by rw [PN];exact eC.out.symm) (by omega) et.out z.heap.size (i:Int) rfl (by simp) ?_;intro v' w8 h1 h2 h3;have G8:=hT (eD.out v' w8 h1 h2 h3);clear h1 h2 h3)
        go_roundw
        case rel=>exact ⟨k+1,_,rfl,rfl,by omega,G8⟩
        case measure=>simp [wo];omega
      · have H0:=hT F
        have WC:Hid (∀W,zB W5 W→zF 92 #[zP b.d.p, .int lg (p.data i:Int), .string (Om.B x.2)] W fun e z=>e= nf (.int lg X)∧
            (z.cell? (zD b.q 3)= some (zP b.d.p)∧z.cell? (zD L 0)= some (.int lg (p.data i:Int))∧z.cell? (zz wr 1)= some (.string (Om.B x.2)))∧(aa st (aV p m l (aI (ak m l)))).2= X∧ay b p inv (aa st (aV p m l (aI (ak m l)))).1 (bA m (l.take (k+1))) w z):=hT fun W hW=>(Z W hW).mono fun e z ⟨e1,⟨_,e2⟩,_,Q⟩=>⟨e1,e2.2,Q F⟩
        have NE:=hT (fun w1=>dy X F w1)
        unfold aB at NE
        clear Z F
        go_upto_region 6 with fail
        go_region_held (fun w'=>w'.cell? (zD b.q 3)= some (zP b.d.p)∧w'.cell? (zD L 0)= some (.int lg (p.data i:Int))∧w'.cell? (zz wr 1)= some (.string (Om.B x.2)))
          (first|(refine ⟨?_,?_,?_⟩<;>assumption)|go_keep)
          (first
            | (go_at_call 92;refine (WC.out _ zR.drew).mono ?_;rintro e z ⟨rfl,⟨z3,zg,zb⟩,G⟩;have AN:=hT G;clear G)
            | (go_at_call 168;refine zh (NE.out _) ?_;refine T7 fun G=>?_;have bG:=G ⟨rfl,X,_,(aX H0.out).symm,AN.out.1.symm,AN.out.2,fun e=>(H0.out e).elim⟩;clear G;refine jg (by assumption) bG {tmps:=#[],defers:= []} z ?_))
        exact bG.elim
    · obtain rfl:k= n:=by omega
      obtain ⟨x,f⟩:=dm.out wr _ C.out
      clear dm cu H0 C
      by_cases F:x= 0
      · subst F
        rw [cF]at f
        have Z:=hT f
        clear f
        go_wp2_with fail
        refine Z.out.mono ?_
        rintro e w3 ⟨rfl, -,hy⟩
        obtain ⟨a',c',y,hv,Y⟩:=hy (by first|trivial|rfl)
        subst hv
        clear hy
        by_cases h1:y= 0
        · subst h1
          rw [cF]at Y
          have Y:=hT Y
          go_wp2_with fail
          refine Y.out.mono ?_
          rintro e w4 ⟨rfl,Q,hw⟩
          have F3:=hT (UC Q hw)
          clear Q hw
          go_wp2_with fail
          go_end0
          exact ⟨0,_,rfl,F3.out.1,F3.out.2,fun _=>rfl⟩
        · rw [aX h1]at Y
          have Y:=hT Y
          have H1:=hT h1
          unfold aB at Y
          clear h1
          go_wp2_with fail
          refine Y.out.mono ?_
          rintro e w4 ⟨rfl,Q,hw⟩
          have F3:=hT (UC Q hw)
          clear Q hw
          go_wp2_with fail
          exact ⟨rfl,_,_,(aX H1.out).symm,F3.out.1,F3.out.2,fun _=>rfl⟩
      · rw [aX F]at f
        have Z:=hT f
        have H1:=hT F
        unfold aB at Z
        clear F f
        go_wp2_with fail
        refine Z.out.mono ?_
        rintro e w3 ⟨rfl,G, -⟩
        have F3:=hT (G H1.out)
        clear G
        go_wp2_with fail
        obtain ⟨m',f1,f2⟩:=F3.out
        exact ⟨rfl,_,m',(aX H1.out).symm,f1.symm,f2,fun e=>(H1.out e).elim⟩
theorem lD (w:World) (x y:Value) (T U:TypeId) (W0:World) (h:(w.alloc (hV #[x] T)).alloc (hV #[y] U)= W0): zB w W0/\W0.cell? (zz w 0)= some x/\W0.cell? (zD (w.heap.size+1) 0)= some y/\W0.heap.size= w.heap.size+2:=by
 subst h;have h1:=heap_alloc_new w (hV #[x] T);have b:=heap_alloc_new (w.alloc (hV #[x] T)) (hV #[y] U);have c:(w.alloc (hV #[x] T)).heap.size= w.heap.size+1:=by simp
 rw [c]at b;have d:Below (w.heap.size+1) (w.alloc (hV #[x] T)) ((w.alloc (hV #[x] T)).alloc (hV #[y] U)):=zR.alloc (by simp) _;have a:=(d.block w.heap.size (by omega)).trans h1;exact ⟨(zA).alloc (by simp) _,zW a,zW b,by simp⟩
theorem Aa (h:Sk w b p inv st m) (hp:p.Ok) (g:st.P.length<=274877906944): zF 136 #[zP b.q] w λe w'=>e= nf (zI (aa st (bY p)).2)/\ay b p true (aa st (bY p)).1 [] w w':=by have AT:=qK h (enters_of func178 (by kernel_rfl) rfl) (first:=#[zP b.q]) (cap:=#[]) (λx a st' d=>x= (aa st (bY p)).2/\a= true/\st'= (aa st (bY p)).1/\d= []) λW hW hb=>(KH (h.below hb) hp g).mono λe w' ⟨h1,h2⟩=>⟨_,_,_,_,h1,⟨rfl,rfl,rfl,rfl⟩,h2⟩;have c:=hT AT;clear AT h hp g;go_enter func136,ntmps136;go_wp2_with fail;refine c.out.mono ?_;rintro e w2 ⟨x,a,st',d,rfl,⟨f,rfl,rfl,rfl⟩,hw⟩;have i:=hT f;have j:=hT hw;clear f hw;go_wp2_with fail;go_ret;exact ⟨by rw [<-i.out];rfl,j.out⟩
variable{Q:World→Prop}
theorem Lc {g0 g1:Nat} {n c:Nat} {X:Int} (c0:W.cell? (zD g0 0)= some (zP q)) (c1:W.cell? (zD g1 0)= some (.slice a n c)) (h:zF 181 #[zP q, .slice a n c] W λe w'=>e= aP X/\Q w'): zF 180 #[zP g0,zP g1] W λe w'=>e= aP X/\Q w':=by
 by_cases b:X= 0;· subst b;rw [cF]at h⊢;have d:=hT h;clear h;go_enter func180,ntmps180;go_wp2_with fail;refine zg d.out λw2 hq=>?_;go_wp2_with fail;go_end0;exact ⟨rfl,hq⟩
 ·rw [aX b]at h⊢;unfold aB at h⊢;have d:=hT h;clear h b;go_enter func180,ntmps180;go_wp2_with fail;refine zg d.out λw2 hq=>?_;go_wp2_with fail;exact ⟨rfl,rfl,hq⟩
def Ab (b:Bk) (p:Pa) (inv:Bool) (st:Dm.St) (m:zN) (l:zY) (w:World) (e:Ending) (w':World):Prop:= ((fh inv m p.g l≠0\/l= [])/\e= nf (zI (fh inv m p.g l))/\ay b p inv st m w w')\/ (fh inv m p.g l= 0/\l≠ []/\e= nf (zI (aa st (aV p m l (aI (ak m l)))).2)/\∃m',ay b p inv (aa st (aV p m l (aI (ak m l)))).1 m' w w'/\((aa st (aV p m l (aI (ak m l)))).2= 0->m'= bA m l))
theorem Ad (h:Sk w b p inv st m) (hp:p.Ok) (hm:inv= false->m.length= p.N) {l:zY} (n c:Nat) (B:n= l.length) (K:n<=1048576) (I:st.P.length<=68719476736) (a:Option Addr) (E:il w a l) (j:∀g off,l≠ []->a= some ⟨g,off,none⟩->¬b.fp g) (i:∀x∈l,(PO lg x.1).wf): zF 137 #[zP b.q, .slice a n c] w (Ab b p inv st m l w):=by obtain ⟨U,r⟩:=eX2 ((w.alloc (hV #[zP b.q] 90)).alloc (hV #[.slice a n c] 222));obtain ⟨s,c0,c1,t⟩:=lD w _ _ _ _ U r;have z:=h.below s;have R:=hT (mN z);have H:=hT (K3 z hp n c B K a (E.below s) i);have Y:=hT s;have S:=hT h;have k:=h.tm.ok;unfold Ab;cases inv with
 | true => have d:Hid (fh true m p.g l= 162):=hT (by unfold fh;rw [if_pos rfl]);clear h z s t hm B E j i hp I H k;go_enter func137,ntmps137;go_wp2_with fail;clear r;refine zh R.out ?_;go_wp2_with fail;go_ret;rw [d.out];exact .inl ⟨.inl (by decide),rfl,ay.below Y.out (ay.refl (S.out.below Y.out))⟩
 | false => cases hmr:iE m p.g l with
 | false => rw [hmr]at H;have d:Hid (fh false m p.g l= 1):=hT (by unfold fh;rw [if_neg (by decide),hmr,if_neg (by decide)]);clear h z s t hm B E j i hp I hmr k;go_enter func137,ntmps137;go_wp2_with fail;clear r;refine zh R.out ?_;go_wp2_with fail;refine zg H.out λw2 hb=>?_;have FB:=zT Y hb;clear hb;go_wp2_with fail;go_ret;rw [d.out];exact .inl ⟨.inl (by decide),rfl,ay.below FB.out (ay.refl (S.out.below FB.out))⟩
 | true =>
 rw [hmr]at H;have u:Hid (∀W,zB U W->Sk W b p false st m/\zB w W/\W.cell? (zz w 0)= some (zP b.q)/\W.cell? (zD (w.heap.size+1) 0)= some (.slice a n c)):=hT λW hW=> ⟨z.below hW,s.trans (hW.mono s.size),(hW.cell (p:=(zz w 0)) (by show w.heap.size<_;omega)).trans c0,(hW.cell (p:=(zD (w.heap.size+1) 0)) (by show w.heap.size+1<_;omega)).trans c1⟩;have LE:Hid (∀W,zB U W->zF 84 #[zP b.q] W λe w'=>e= nf (.int lg ((free m:Nat):Int))/\zB W w'):=hT λW hW=>ow (z.below hW);obtain ⟨F,T⟩:=eX1 (free m);rw [<-T]at LE;by_cases hle:n<=F;·
  have d2:decide (F<n)= false:=by simp;omega
  have d:Hid (fh false m p.g l= 0):=hT (by unfold fh;rw [if_neg (by decide),hmr,if_pos rfl,if_pos (by omega)]);by_cases o:l= [];·
   have e1:((n:Int) == 0):=by rw [B,o];rfl
   have V:=hT o;clear h z s t hm B E j i hp I hmr o T hle k;go_enter func137,ntmps137;go_wp2_with fail;clear r;refine zh R.out ?_;go_wp2_with fail;refine zg H.out λw2 hb=>?_;obtain ⟨-, -,f0,f1⟩:=u.out w2 hb;have y:=hT hb;clear hb;go_wp2_with fail;go_region_held3 (λw'=>w'.cell? (zz w 0)= some (zP b.q)/\w'.cell? (zD (w.heap.size+1) 0)= some (.slice a n c)) (first|(refine ⟨?_,?_⟩<;>assumption)|go_keep) (first|(go_at_call 84;refine zg (LE.out _ y.out.drew) λw3 hb=>?_;have v:=hT (y.out.trans ((gU hb).mono y.out.size));obtain ⟨-, -,g0,g1⟩:=u.out w3 v.out));go_wp2_with fail;go_ret;rw [d.out];exact .inl ⟨.inr V.out,rfl,ay.below (u.out _ v.out).2.1 (ay.refl (u.out _ v.out).1)⟩
  ·have e1:((n:Int) == 0)= false:=by have:=UO.2 o;simp;omega
   obtain ⟨-,C,hlen⟩:=xr k d.out;have AT:Hid (∀w1,zB U w1->zF 159 #[.func (.func 180) #[] #[zP w.heap.size,zP (w.heap.size+1)]] w1 λe w'=>e= nf (.int lg (aa st (aV p m l (aI (ak m l)))).2)/\∃f,ay b p false (aa st (aV p m l (aI (ak m l)))).1 f w1 w'/\((aa st (aV p m l (aI (ak m l)))).2= 0->f= bA m l)):=hT λw1 hb1=>by
    have G:=s.trans (hb1.mono s.size);refine (qK (h.below G) (enters_of func180 (by kernel_rfl) rfl) (λx A st' f=>x= (aa st (aV p m l (aI (ak m l)))).2/\A= false/\st'= (aa st (aV p m l (aI (ak m l)))).1/\((aa st (aV p m l (aI (ak m l)))).2= 0->f= bA m l)) λW hW hb=>?_).mono ?_;· have M:=G.trans (hb.mono G.size);have O:=hb1.trans (hb.mono hb1.size);have:=Lb (h.below M) hp (hm rfl) C hlen n c B K I a (E.below M) j;have D:zF 181 #[zP b.q, .slice a n c] W λe w'=>e= aP (aa st (aV p m l (aI (ak m l)))).2/\∃f,ay b p false (aa st (aV p m l (aI (ak m l)))).1 f W w'/\((aa st (aV p m l (aI (ak m l)))).2= 0->f= bA m l):=this.mono λe w' ⟨X,f,h1,J,Q,h4⟩=>⟨by rw [h1,J],f,Q,by rw [<-J];exact h4⟩;refine (Lc ((O.cell (p:=(zz w 0)) (by show w.heap.size<_;omega)).trans c0) ((O.cell (p:=(zD (w.heap.size+1) 0)) (by show w.heap.size+1<_;omega)).trans c1) D).mono ?_;rintro e w2 ⟨h1,f,J,Q⟩;exact ⟨_,_,_,_,h1,⟨rfl,rfl,rfl,Q⟩,J⟩
    ·rintro e w' ⟨x,A,st',f,rfl,⟨rfl,rfl,rfl,Q⟩,J⟩;exact ⟨rfl,f,J,Q⟩
   have V:=hT o;clear h z s t hm B E j i hp I hmr o T hle k C hlen;go_enter func137,ntmps137;go_wp2_with fail;clear r;refine zh R.out ?_;go_wp2_with fail;refine zg H.out λw2 hb=>?_;obtain ⟨-, -,f0,f1⟩:=u.out w2 hb;have y:=hT hb;clear hb;go_wp2_with fail;go_region_held3 (λw'=>w'.cell? (zz w 0)= some (zP b.q)/\w'.cell? (zD (w.heap.size+1) 0)= some (.slice a n c)) (first|(refine ⟨?_,?_⟩<;>assumption)|go_keep) (first|(go_at_call 84;refine zg (LE.out _ y.out.drew) λw3 hb=>?_;have v:=hT (y.out.trans ((gU hb).mono y.out.size));obtain ⟨-, -,g0,g1⟩:=u.out w3 v.out));have AB:=hT (AT.out w3 v.out);clear AT;go_wp2_with fail;refine AB.out.mono ?_;rintro e w4 ⟨rfl,f,hw,L⟩;have Z:=hT (UC hw L);clear hw L;go_wp2_with fail;go_ret;exact .inr ⟨d.out,V.out,rfl,f,ay.below (u.out _ v.out).2.1 Z.out.1,Z.out.2⟩
 ·have d2:decide (F<n):=by simp;omega
  have d:Hid (fh false m p.g l= 111):=hT (by unfold fh;rw [if_neg (by decide),hmr,if_pos rfl,if_neg (by omega)]);clear h z s t hm B E j i hp I hmr T hle k;go_enter func137,ntmps137;go_wp2_with fail;clear r;refine zh R.out ?_;go_wp2_with fail;refine zg H.out λw2 hb=>?_;obtain ⟨-, -,f0,f1⟩:=u.out w2 hb;have y:=hT hb;clear hb;go_wp2_with fail;go_region_held3 (λw'=>w'.cell? (zz w 0)= some (zP b.q)/\w'.cell? (zD (w.heap.size+1) 0)= some (.slice a n c)) (first|(refine ⟨?_,?_⟩<;>assumption)|go_keep) (first|(go_at_call 84;refine zg (LE.out _ y.out.drew) λw3 hb=>?_;have v:=hT (y.out.trans ((gU hb).mono y.out.size));obtain ⟨-, -,g0,g1⟩:=u.out w3 v.out));go_wp2_with fail;go_ret;rw [d.out];exact .inl ⟨.inl (by decide),rfl,ay.below (u.out _ v.out).2.1 (ay.refl (u.out _ v.out).1)⟩
def jP (q dp g0 g1 g2 g3:Nat) (A f:Int) (d:Value) (W:World):Prop:=W.cell? (zD g0 0)= some (zP q)/\W.cell? (zD q 3)= some (zP dp)/\W.cell? (zD g1 0)= some (zI A)/\W.cell? (zD g2 0)= some (zI f)/\W.cell? (zD g3 0)= some d
theorem Lu {dp g0 g1 g2 g3:Nat} {A f k:Int} {d:ByteArray} {X:Int} (i:jP q dp g0 g1 g2 g3 A f (.string d) W) (hk:lg.wrap (A+f)= k)
    (h:∀W',zB W W'→zF 92 #[zP dp,zI k, .string d] W' fun e w'=>e= nf (zI X)∧jP q dp g0 g1 g2 g3 A f (.string d) w'∧Q w'):
    zF 167 #[zP g0,zP g1,zP g2,zP g3] W fun e w'=>e= aP X∧Q w':=by
  unfold jP at i h
  obtain ⟨n,a1,a2,a3,m⟩:=i
  have j:=hT h
  by_cases c:X= 0
  · subst c
    have NE:=hT (fun w1=>dv w1)
    rw [cF]
    clear h
    go_enter func167,ntmps167
    go_region_held3 (fun w'=>w'.cell? (zD g0 0)= some (zP q)∧w'.cell? (zD q 3)= some (zP dp)∧w'.cell? (zD g1 0)= some (zI A)∧w'.cell? (zD g2 0)= some (zI f)∧w'.cell? (zD g3 0)= some (.string d))
      (first|(refine ⟨?_,?_,?_,?_,?_⟩<;>assumption)|go_keep)
      (first
        | (go_at_call 92;refine (j.out _ zR.drew).mono ?_;rintro e w2 ⟨rfl,⟨l,b1,b2,b3,b4⟩,a⟩;have g:=hT a;clear a)
        | (go_at_call 168;refine zh (NE.out _) ?_))
    go_end0
    exact ⟨rfl,g.out⟩
  · have NE:=hT (fun w1=>dy X c w1)
    rw [aX c]
    unfold aB at NE⊢
    clear h c
    go_enter func167,ntmps167
    go_region_held (fun w'=>w'.cell? (zD g0 0)= some (zP q)∧w'.cell? (zD q 3)= some (zP dp)∧w'.cell? (zD g1 0)= some (zI A)∧w'.cell? (zD g2 0)= some (zI f)∧w'.cell? (zD g3 0)= some (.string d))
      (first|(refine ⟨?_,?_,?_,?_,?_⟩<;>assumption)|go_keep)
      (first
        | (go_at_call 92;refine (j.out _ zR.drew).mono ?_;rintro e w2 ⟨rfl,⟨l,b1,b2,b3,b4⟩,a⟩;have g:=hT a;clear a)
        | (go_at_call 168;refine zh (NE.out _) ?_;refine T7 fun hn=>?_;have b:=hn ⟨rfl,rfl,g.out⟩;clear hn;refine jg (by assumption) b {tmps:=#[],defers:= []} w2 ?_))
    exact b.elim
theorem cB (h:q≠g) (x:Value) (j:Nat):(w.setCell ⟨g,0,none⟩ x).cell? (zD q j)= w.cell? (zD q j):=gV (p:=(zD q j)) (L2 _ ⟨g,0,none⟩ _ _ h)
theorem Lw {dp g0 g1 g2 g3 g4:Nat} {A f n k:Int} {d:zL} {z:Value} (g:jP q dp g0 g1 g2 g3 A f (zI n) W) (hk:lg.wrap (A+f)= k) (c:W.cell? (zD g4 0)= some z) (a:W.frozen? (zD g4 0)= false) (hd:g0≠g4/\q≠g4/\g1≠g4/\g2≠g4/\g3≠g4) (h:∀W',zB W W'->zF 98 #[zP dp,zI k,zI n] W' λe w'=>e= zV (.string (Om.B d)) (zI 0)/\zB W' w'): zF 173 #[zP g0,zP g1,zP g2,zP g3,zP g4] W λe w'=>e= nf (CE #[])/\∃w1,zB W w1/\w'= w1.setCell ⟨g4,0,none⟩ (.string (Om.B d)):=by
 have l:Hid (∀w1,zB W w1->jP q dp g0 g1 g2 g3 A f (zI n) w1/\w1.cell? (zD g4 0)= some z/\w1.frozen? (zD g4 0)= false):=hT λw1 hb=>by obtain ⟨j,a1,a2,a3,i⟩:=g;have k:=λ(p:Addr) v (h:W.cell? p= some v)=>(hb.cell (p:=p) (Vt _ _ h)).trans h;exact ⟨⟨k _ _ j,k _ _ a1,k _ _ a2,k _ _ a3,k _ _ i⟩,k _ _ c,(hb.frozen (p:=(zD g4 0)) (Vt _ _ c)).trans a⟩
 unfold jP at g l;obtain ⟨j,a1,a2,a3,i⟩:=g;have r:=hT h;have o:=hT (λw1=>eL (.string (Om.B d)) w1);have b:=hT hd;clear h c a hd;go_enter func173,ntmps173;go_region_held3 (λw'=>w'.cell? (zD g0 0)= some (zP q)/\w'.cell? (zD q 3)= some (zP dp)/\w'.cell? (zD g1 0)= some (zI A)/\w'.cell? (zD g2 0)= some (zI f)/\w'.cell? (zD g3 0)= some (zI n)) (first|(refine ⟨?_,?_,?_,?_,?_⟩<;>first|(rw [cB b.out.1];assumption)|(rw [cB b.out.2.1];assumption)|(rw [cB b.out.2.2.1];assumption)|(rw [cB b.out.2.2.2.1];assumption)|(rw [cB b.out.2.2.2.2];assumption)|assumption)|go_keep) (first
  | (go_at_call 98;refine zg (r.out _ zR.drew) λw2 hb=>?_;have m:=hT (gU hb);obtain ⟨⟨u,b1,b2,b3,b4⟩,t,s⟩:=l.out w2 m.out;clear hb)
  | (go_at_call 174;refine zh (o.out _) ?_));go_end0;exact ⟨rfl,w2,m.out,rfl⟩
theorem uD (w:World) (x y z:Value) (T U V:TypeId) (W0:World) (h:((w.alloc (hV #[x] T)).alloc (hV #[y] U)).alloc (hV #[z] V)= W0): zB w W0/\W0.cell? (zz w 0)= some x/\W0.cell? (zD (w.heap.size+1) 0)= some y/\W0.cell? (zD (w.heap.size+2) 0)= some z/\W0.heap.size= w.heap.size+3:=by obtain ⟨b,a⟩:=eX2 ((w.alloc (hV #[x] T)).alloc (hV #[y] U));obtain ⟨h1,g,f,e⟩:=lD w x y T U b a;rw [a]at h;subst h;have d:=heap_alloc_new b (hV #[z] V);have c:zB b (b.alloc (hV #[z] V)):=zA;rw [e]at d;exact ⟨h1.trans (c.mono h1.size),(c.cell (p:=(zz w 0)) (by show w.heap.size<_;omega)).trans g,(c.cell (p:=(zD (w.heap.size+1) 0)) (by show w.heap.size+1<_;omega)).trans f,zW d,by simp [e]⟩
def fE (inv:Bool) (m:zN) (o:Int):Int:=if inv= true then 162 else if (Tb.find m o).isSome= true then 0 else 161
def rE (inv:Bool) (m:zN) (p:Pa) (o f n:Int):Int:=if fE inv m o= 0 then if gS p f n= true then 0 else 2 else fE inv m o
def wE (inv:Bool) (m:zN) (p:Pa) (o f:Int) (d:zL):Int:=if fE inv m o= 0 then if d.length % 64= 0 then if gS p f ((d.length / 64:Nat):Int)= true then 0 else 2 else 1 else fE inv m o
theorem Ar (h:Sk w b p inv st m) (hp:p.Ok) (hm:inv= false->m.length= p.N) (o:Int) (hk:(PO lg o).wf): (fE inv m o≠0/\zF 165 #[zP b.q, .int lg o] w λe w'=>e= zV (.agg #[.int lg 0, .int lg 0]) (.int lg (fE inv m o))/\zB w w')\/ (fE inv m o= 0/\∃i,inv= false/\Tb.find m o= some i/\i<p.N/\zF 165 #[zP b.q, .int lg o] w λe w'=>e= zV (.agg #[.int lg (p.data i:Int), .int lg p.g]) (.int lg 0)/\zB w w'):=by have FI:=Kc h hp hm o hk;unfold zd at FI;cases inv with
 | true =>
 left;refine ⟨by unfold fE;rw [if_pos rfl];decide,FI.mono ?_⟩;rintro e w' ⟨a,⟨_,rfl⟩|⟨h1,_⟩|⟨h1,_⟩⟩;· exact ⟨by unfold fE;rw [if_pos rfl],a⟩
 ·cases h1
 ·cases h1
 | false => cases hf:Tb.find m o with
 | none =>
 left;refine ⟨by unfold fE;rw [hf];decide,FI.mono ?_⟩;rintro e w' ⟨a,⟨h1,_⟩|⟨_,_,rfl⟩|⟨_,i,h1,_⟩⟩;· cases h1
 ·exact ⟨by unfold fE;rw [hf];rfl,a⟩
 ·rw [hf]at h1;cases h1
 | some i =>
 right;refine ⟨by unfold fE;rw [hf];rfl,i,rfl,rfl,by have:=Tb.wC hf;rw [hm rfl]at this;exact this,FI.mono ?_⟩;rintro e w' ⟨a,⟨h1,_⟩|⟨_,h1,_⟩|⟨_,j,h1,rfl⟩⟩;· cases h1
 ·rw [hf]at h1;cases h1
 ·rw [hf]at h1;injection h1 with h1;subst h1;exact ⟨rfl,a⟩
def As (b:Bk) (p:Pa) (inv:Bool) (st:Dm.St) (m:zN) (o f:Int) (d:zL) (w:World) (e:Ending) (w':World):Prop:= (wE inv m p o f d≠0/\e= nf (zI (wE inv m p o f d))/\ay b p inv st m w w')\/ (wE inv m p o f d= 0/\∃i,Tb.find m o= some i/\e= nf (zI (aa st [cV p i f.toNat d]).2)/\ay b p inv (aa st [cV p i f.toNat d]).1 m w w')
variable{d:Value}
theorem uE {W0 W2:World} {dp:Nat} {A L f:Int} (k:zB w W0) (i:W0.heap.size= w.heap.size+3) (c0:W0.cell? (zz w 0)= some (zP q)) (c1:W0.cell? (zD (w.heap.size+1) 0)= some (zI f)) (c2:W0.cell? (zD (w.heap.size+2) 0)= some d) (a:zB W0 W2) (e:W2.heap[g]?= some (hV #[zI A,zI L] 65 (0,0))) (h:zB W2 W) (j:W.cell? (zD q 3)= some (zP dp)):jP q dp w.heap.size g (w.heap.size+1) (w.heap.size+2) A f d W:=by have c:=a.trans (h.mono a.size);have b:=(h.block g (ae.lt_of_heap e)).trans e;exact ⟨(c.cell (p:=(zz w 0)) (by show w.heap.size<_;omega)).trans c0,j,zW b,(c.cell (p:=(zD (w.heap.size+1) 0)) (by show w.heap.size+1<_;omega)).trans c1,(c.cell (p:=(zD (w.heap.size+2) 0)) (by show w.heap.size+2<_;omega)).trans c2⟩
theorem Lx {W' w':World} {st':Dm.St} {g0 g1 g2 g3:Nat} {A f:Int} (h:jP b.q b.d.p g0 g1 g2 g3 A f d W') (i:ay b p inv st' m W' w') (l:∀k,b.fp k->k<w.heap.size) (a:w.heap.size<=g0/\w.heap.size<=g1/\w.heap.size<=g2/\w.heap.size<=g3):jP b.q b.d.p g0 g1 g2 g3 A f d w':=by have n:=i.fr;obtain ⟨b',j,c⟩:=i;have r:=j.reads;rw [c.q,c.dp]at r;obtain ⟨s,a1,a2,a3,o⟩:=h;have k:∀(g:Nat) (v:Value),w.heap.size<=g->W'.cell? (zD g 0)= some v->w'.cell? (zD g 0)= some v:=λg v a hv=>(dJ n (Vt _ _ hv) λe=>by have:=l g e;omega).trans hv;exact ⟨k _ _ a.1 s,r.2.2.2.1,k _ _ a.2.1 a2,k _ _ a.2.2.1 a3,k _ _ a.2.2.2 o⟩
theorem Ly (st:Dm.St) (p:Pa) (i:Nat) (f:Int) (d:zL) (a:0<=f):aa st [cV p i f.toNat d]= Dm.write st ((p.data i:Int) +f) d:=by rw [kd];show ((Dm.write st ((p.data i+f.toNat:Nat):Int) d).1,(Dm.write st ((p.data i+f.toNat:Nat):Int) d).2)= _;rw [show ((p.data i+f.toNat:Nat):Int)= (p.data i:Int) +f by omega]
theorem Lz (h:Sk w b p inv st m) (hp:p.Ok) (hm:inv= false->m.length= p.N) (o f:Int) (d:zL) (ho:(PO lg o).wf) (hf:(PO lg f).wf) (hd:d.length<=137438953472) (hP:st.P.length<=274877906944): zF 121 #[zP b.q, .int lg o, .int lg f, .string (Om.B d)] w (As b p inv st m o f d w):=by
 obtain ⟨W0,z⟩:=eX2 (((w.alloc (hV #[zP b.q] 90)).alloc (hV #[.int lg f] 3)).alloc (hV #[.string (Om.B d)] 9));obtain ⟨F,c0,c1,c2,D⟩:=uD w _ _ _ _ _ _ W0 z;have h0:=h.below F;have HB:=hT F;have Y:=hT D;have bo:=hT h;have A:Hid (∀w',zB w w'->ay b p inv st m w w'):=hT λw' hb=>ay.below hb (ay.refl (h.below hb));unfold As;rcases Ar h0 hp hm o ho with ⟨H,FI⟩|⟨H,i,ad,U,T,FI⟩;·
  have v:=hT FI;have e1:(fE inv m o != 0):=by simpa using H
  have E:Hid (wE inv m p o f d= fE inv m o/\fE inv m o≠0):=hT ⟨by unfold wE;rw [if_neg H],H⟩;obtain ⟨x,O⟩:=eX1 (fE inv m o);rw [<-O]at v e1 E;clear h h0 F D hm ho hf hd hP hp FI H O;go_enter func121,ntmps121;go_wp2_with fail;clear z;refine zg v.out λw1 hb=>?_;have M:=zT HB hb;clear hb;go_wp2_with fail;go_ret;refine .inl ⟨by rw [E.out.1];exact E.out.2,by rw [E.out.1];rfl,A.out _ (M.out.trans (zA |>.mono M.out.size))⟩
 ·have S:=Om.aG d;obtain ⟨n,hn⟩:=eX1 d.length;rw [<-hn]at S;obtain ⟨q,hq⟩:=eX1 (n / 64);have bl:(n:Int) / 64= (q:Int):=by omega
  have L:(((n:Nat):Int) % 64 != 0)= !(decide (n % 64= 0)):=by
   by_cases c:n % 64= 0;· rw [decide_eq_true c];simp;omega
   ·rw [decide_eq_false c];simp;omega
  have aw:=Pa.mo hp T;have af:=hp.high;have ba:=hp.ag.a1;have ao:=hp.ag.g2;have V:Hid (∀w1,zF 166 #[.int lg f, .int lg q, .agg #[.int lg (p.data i:Int), .int lg p.g]] w1 λe w'=>e= nf (.bool (gS p f (q:Int)))/\zB w1 w'):=hT λw1=>mA f (q:Int) (p.data i:Int) (p.g:Int) w1 hf (by omega) (by omega);have E:Hid (wE inv m p o f d= if n % 64= 0 then if gS p f (q:Int)= true then 0 else 2 else 1):=hT (by unfold wE;rw [if_pos H,<-hn,<-hq]);have FF:=hT U;have v:=hT FI;have AT:Hid (∀w1 t w3,zB W0 w1->w1.alloc (hV #[.int lg (p.data i:Int), .int lg p.g] 65)= t->zB t w3->gS p f (q:Int)= true->zF 159 #[.func (.func 167) #[] #[zP w.heap.size,zP w1.heap.size,zP (w.heap.size+1),zP (w.heap.size+2)]] w3 λe w'=>e= nf (.int lg (aa st [cV p i f.toNat d]).2)/\ay b p inv (aa st [cV p i f.toNat d]).1 m w w'):=hT λw1 t w3 hb1 j hb3 hin=>by
   obtain ⟨f0,n0,bm⟩:=pX.1 hin;rw [Ly st p i f d f0];have l:zB w1 t:=by rw [<-j];exact zA
   have s:t.heap[w1.heap.size]?= some (hV #[.int lg (p.data i:Int), .int lg p.g] 65 (0,0)):=by rw [<-j];exact heap_alloc_new w1 _
   have a:=hb1.trans (l.mono hb1.size);have R:=F.trans (a.mono F.size);have C:=R.trans (hb3.mono R.size);refine (qK (h.below C) (enters_of func167 (by kernel_rfl) rfl) (λx G st' m'=>x= (Dm.write st ((p.data i:Int) +f) d).2/\G= inv/\st'= (Dm.write st ((p.data i:Int) +f) d).1/\m'= m) λW hW hb=>?_).mono ?_;·
    have I:=C.trans (hb.mono C.size);have K:=hb3.trans (hb.mono hb3.size);have kW:=h.below I;have r:=kW.reads;have J:=uE (f:=f) (d:= .string (Om.B d)) F D c0 c1 c2 a s K r.2.2.2.1;have ab:lg.wrap ((p.data i:Int) +f)= (p.data i:Int) +f:=rr _ (by omega);refine (Lu (X:=(Dm.write st ((p.data i:Int) +f) d).2) (Q:=λw'=>ay b p inv (Dm.write st ((p.data i:Int) +f) d).1 m W w') J ab λW' hW'=>?_).mono ?_;· have y:=I.trans (hW'.mono I.size);refine zg ((ae.fC (h.below y).dk ((p.data i:Int) +f) d (by omega) (by omega) (by omega))) λw' hwent=>?_;have hs:=(h.below y).cP hwent;have Z:=(h.below y).reads;refine ⟨rfl,Lx (w:=w) ?_ hs (λk hk=>h.lt k hk) ⟨nm _,A6 F.size hb1.size,by omega,by omega⟩,ay.below hW' hs⟩;exact uE F D c0 c1 c2 a s (K.trans (hW'.mono K.size)) Z.2.2.2.1
    ·rintro e w' ⟨h1,h2⟩;exact ⟨_,_,_,_,h1,⟨rfl,rfl,rfl,rfl⟩,h2⟩
   ·rintro e w' ⟨x,G,st',m',rfl,⟨rfl,rfl,rfl,rfl⟩,h2⟩;exact ⟨rfl,ay.below C h2⟩
  have bg:lg.wrap (q:Int)= (q:Int):=rr _ (by omega);clear h h0 F hm ho hf hd hP hp FI H U T ad hn hq aw af ba ao;by_cases u:n % 64= 0;· rw [decide_eq_true u]at L;have L:((n:Int) % 64 != 0)= false:=L;have E:Hid (wE inv m p o f d= if gS p f (q:Int)= true then 0 else 2):=hT (by rw [E.out,if_pos u]);clear u;cases hin:gS p f (q:Int) with
   | false =>
   rw [hin]at V E;clear hin AT;go_enter func121,ntmps121;go_wp2_with fail;clear z;refine zg v.out λw1 hb=>?_;obtain ⟨t,j⟩:=eX2 (w1.alloc (hV #[.int lg (p.data i:Int), .int lg p.g] 65));have l:zB w1 t:=by rw [<-j];exact zA
   have s:t.heap[w1.heap.size]?= some (hV #[.int lg (p.data i:Int), .int lg p.g] 65 (0,0)):=by rw [<-j];exact heap_alloc_new w1 _
   obtain ⟨y0,y1,yf⟩:=bR s;have a:=hb.trans (l.mono hb.size);have z1:=(a.cell (p:=(zD (w.heap.size+1) 0)) (by show w.heap.size+1<_;rw [Y.out];omega)).trans c1;have z2:=(a.cell (p:=(zD (w.heap.size+2) 0)) (by show w.heap.size+2<_;rw [Y.out];omega)).trans c2;have M:=zT HB a;clear hb l s a;go_wp2_with fail;clear j;refine zg (V.out _) λw3 hb=>?_;have bf:=zT M hb;clear hb;go_wp2_with fail;go_ret;exact .inl ⟨by rw [E.out];decide,by rw [E.out];rfl,A.out _ bf.out⟩
   | true =>
   rw [hin]at V E;have bb:=hT hin;clear hin;go_enter func121,ntmps121;go_wp2_with fail;clear z;refine zg v.out λw1 hb=>?_;obtain ⟨t,j⟩:=eX2 (w1.alloc (hV #[.int lg (p.data i:Int), .int lg p.g] 65));have l:zB w1 t:=by rw [<-j];exact zA
   have s:t.heap[w1.heap.size]?= some (hV #[.int lg (p.data i:Int), .int lg p.g] 65 (0,0)):=by rw [<-j];exact heap_alloc_new w1 _
   obtain ⟨y0,y1,yf⟩:=bR s;have a:=hb.trans (l.mono hb.size);have z1:=(a.cell (p:=(zD (w.heap.size+1) 0)) (by show w.heap.size+1<_;rw [Y.out];omega)).trans c1;have z2:=(a.cell (p:=(zD (w.heap.size+2) 0)) (by show w.heap.size+2<_;rw [Y.out];omega)).trans c2;have A2:=hT (λw3 (h3:zB t w3)=>AT.out w1 t w3 hb j h3 bb.out);clear hb l s a AT;go_wp2_with fail;clear j;refine zg (V.out _) λw3 hb=>?_;have A3:=hT (A2.out w3 hb);clear hb A2;go_wp2_with fail;refine zg A3.out λw4 hw=>?_;have HW:=hT hw;clear hw;go_wp2_with fail;go_ret;exact .inr ⟨by rw [E.out];rfl,i,FF.out,rfl,HW.out⟩
  ·rw [decide_eq_false u]at L;have L:((n:Int) % 64 != 0):=L;have E:Hid (wE inv m p o f d= 1):=hT (by rw [E.out,if_neg u]);clear u AT V;go_enter func121,ntmps121;go_wp2_with fail;clear z;refine zg v.out λw1 hb=>?_;obtain ⟨t,j⟩:=eX2 (w1.alloc (hV #[.int lg (p.data i:Int), .int lg p.g] 65));have l:zB w1 t:=by rw [<-j];exact zA
   have a:=hb.trans (l.mono hb.size);have z2:=(a.cell (p:=(zD (w.heap.size+2) 0)) (by show w.heap.size+2<_;rw [Y.out];omega)).trans c2;have M:=zT HB a;clear hb l a;go_wp2_with fail;go_ret;exact .inl ⟨by rw [E.out];decide,by rw [E.out];rfl,A.out _ M.out⟩
def Au (p:Pa) (inv:Bool) (st:Dm.St) (m:zN) (o f n:Int) (w:World) (e:Ending) (w':World):Prop:=zB w w'/\ ((rE inv m p o f n≠0/\e= zV (.string (Om.B [])) (zI (rE inv m p o f n)))\/ (rE inv m p o f n= 0/\∃i,Tb.find m o= some i/\e= zV (.string (Om.B (Dm.aA st ((p.data i:Int) +f) n))) (zI 0)))
theorem LB (h:Sk w b p inv st m) (hp:p.Ok) (hm:inv= false->m.length= p.N) (o f n:Int) (ho:(PO lg o).wf) (hf:(PO lg f).wf) (hd:st.dead= false) (hl:st.S.length= p.a) (hP:st.P.length<=274877906944): zF 127 #[zP b.q, .int lg o, .int lg f, .int lg n] w (Au p inv st m o f n w):=by
 obtain ⟨W0,H⟩:=eX2 (((w.alloc (hV #[zP b.q] 90)).alloc (hV #[.int lg f] 3)).alloc (hV #[.int lg n] 3));obtain ⟨R,c0,c1,c2,L⟩:=uD w _ _ _ _ _ _ W0 H;have h0:=h.below R;have HB:=hT R;have SZ:=hT L;unfold Au;rcases Ar h0 hp hm o ho with ⟨I,FI⟩|⟨I,i,bo,aw,ao,FI⟩;·
  have F:=hT FI;have e1:(fE inv m o != 0):=by simpa using I
  have E:Hid (rE inv m p o f n= fE inv m o/\fE inv m o≠0):=hT ⟨by unfold rE;rw [if_neg I],I⟩;obtain ⟨x,U⟩:=eX1 (fE inv m o);rw [<-U]at F e1 E;clear h h0 R L hm ho hf hd hl hP hp FI I U;go_enter func127,ntmps127;go_wp2_with fail;clear H;refine zg F.out λw1 s=>?_;have FB:=zT HB s;clear s;go_wp2_with fail;go_ret2;exact ⟨FB.out.trans (zA |>.mono FB.out.size), .inl ⟨by rw [E.out.1];exact E.out.2,by rw [E.out.1];rfl⟩⟩
 ·have bt:=Pa.mo hp ao;have bq:=hp.high;have bG:=hp.ag.a1;have bs:=hp.ag.g2;have WI:Hid (∀w1,zF 166 #[.int lg f, .int lg n, .agg #[.int lg (p.data i:Int), .int lg p.g]] w1 λe w'=>e= nf (.bool (gS p f n))/\zB w1 w'):=hT λw1=>mA f n (p.data i:Int) (p.g:Int) w1 hf (by omega) (by omega);have E:Hid (rE inv m p o f n= if gS p f n= true then 0 else 2):=hT (by unfold rE;rw [if_pos I]);have FF:=hT aw;have F:=hT FI;obtain ⟨D,hD⟩:=eX1 (Dm.aA st ((p.data i:Int) +f) n);have AT:Hid (∀w1 A w3 W4,zB W0 w1->w1.alloc (hV #[.int lg (p.data i:Int), .int lg p.g] 65)= A->zB A w3->w3.alloc (hV #[.string (Om.B [])] 9)= W4->gS p f n= true->zF 159 #[.func (.func 173) #[] #[zP w.heap.size,zP w1.heap.size,zP (w.heap.size+1),zP (w.heap.size+2),zP w3.heap.size]] W4 λe w'=>e= nf (.int lg 0)/\zB w w'/\w'.cell? (zz w3 0)= some (.string (Om.B D))):=hT λw1 A w3 W4 hb1 c hb3 hW4 hin=>by
   obtain ⟨f0,n0,cc⟩:=pX.1 hin;have y:zB w1 A:=by rw [<-c];exact zA
   have t:A.heap[w1.heap.size]?= some (hV #[.int lg (p.data i:Int), .int lg p.g] 65 (0,0)):=by rw [<-c];exact heap_alloc_new w1 _
   have Q:zB w3 W4:=by rw [<-hW4];exact zA
   have v:W4.heap[w3.heap.size]?= some (hV #[.string (Om.B [])] 9 (0,0)):=by rw [<-hW4];exact heap_alloc_new w3 _
   have l:=hb1.trans (y.mono hb1.size);have X:=R.trans (l.mono R.size);have K:=X.trans (hb3.mono X.size);have C:=K.trans (Q.mono K.size);have af:=ae.lt_of_heap t;have bl:=ti af hb3.size;have cf:=hb1.size;refine (ky (w:=W4) (Z:=λx w2=>x= 0/\∃W G,W4.alloc (hV #[.int lg 0] 38)= W/\zB W G/\w2= G.setCell ⟨w3.heap.size,0,none⟩ (.string (Om.B D))) (enters_of func173 (by kernel_rfl) rfl) ?_ ?_).mono ?_;·
    rintro x w2 ⟨rfl,W,G,T,s,rfl⟩;have hr:W.heap[W4.heap.size]?= some (hV #[.int lg 0] 38 (0,0)):=by rw [<-T];exact heap_alloc_new W4 _
    have M:W4.heap.size≠w3.heap.size:=by have:=ae.lt_of_heap v;omega
    rw [L2 _ ⟨w3.heap.size,0,none⟩ _ _ M,s.block _ (ae.lt_of_heap hr),hr]
   ·obtain ⟨W,T⟩:=eX2 (W4.alloc (hV #[.int lg 0] 38));rw [T];have u:zB W4 W:=by rw [<-T];exact zA
    have J:=C.trans (u.mono C.size);have bP:=hb3.trans ((Q.trans (u.mono Q.size)).mono hb3.size);have kW:=h.below J;have r:=kW.reads;have O:=uE (f:=f) (d:= .int lg n) R L c0 c1 c2 l t bP r.2.2.2.1;have bb:lg.wrap ((p.data i:Int) +f)= (p.data i:Int) +f:=rr _ (by omega);have ad:=(u.block _ (ae.lt_of_heap v)).trans v;have cb:=h.lt b.q (.inl rfl);refine (Lw (g4:=w3.heap.size) (n:=n) (d:=D) (z:= .string (Om.B [])) O bb (zW ad) (frozen_of_row (j:=0) _ _ _ _ ad) ⟨by omega,by omega,by omega,by omega,by omega⟩ λW' hW'=>?_).mono ?_;·
     have V:=J.trans (hW'.mono J.size);have RD:=ae.kq (h.below V).dk ((p.data i:Int) +f) n (by omega) (by omega);have e0:Dm.aY st ((p.data i:Int) +f) n= 0:=by unfold Dm.aY;rw [hd,if_neg (by decide),if_pos];rw [Dm.fb,hl];omega
     rw [e0,<-hD]at RD;exact RD
    ·rintro e w' ⟨h1,G,h2,h3⟩;exact ⟨0,h1,rfl,W,G,rfl,h2,h3⟩
   ·rintro e w' ⟨x,w2,rfl,⟨rfl,W,G,T,s,rfl⟩,ba⟩;have u:zB W4 W:=by rw [<-T];exact zA
    have bf:=C.trans ((u.trans (s.mono u.size)).mono C.size);have ab:G.heap[w3.heap.size]?= some (hV #[.string (Om.B [])] 9 (0,0)):=by rw [s.block _ (ti (ae.lt_of_heap v) u.size),u.block _ (ae.lt_of_heap v),v]
    have bg:=K.size;have M:w3.heap.size≠W4.heap.size:=by have:=ae.lt_of_heap v;omega
    have Y:zB w (G.setCell ⟨w3.heap.size,0,none⟩ (.string (Om.B D))):=bf.setCell (p:=(zz w3 0)) bg _;refine ⟨rfl,Y.trans (ba.below Y.size λk hk=>by rw [hk];exact C.size),?_⟩;have bm:w3.heap.size< (G.setCell ⟨w3.heap.size,0,none⟩ (.string (Om.B D))).heap.size:=ae.lt_of_heap (heap_setCell_same _ _ _ _ _ _ ab);rw [dJ ba bm (λe=>M e),cell_of_row _ _ _ _ _ _ (heap_setCell_same _ _ _ _ _ _ ab)];rfl
  have bX:=hT hD;clear h h0 R hm ho hf hd hl hP hp FI I aw ao bo bt bq bG bs hD;cases hin:gS p f n with
   | false =>
   rw [hin]at WI E;clear hin AT;go_enter func127,ntmps127;go_wp2_with fail;clear H;refine zg F.out λw1 s=>?_;obtain ⟨A,c⟩:=eX2 (w1.alloc (hV #[.int lg (p.data i:Int), .int lg p.g] 65));have y:zB w1 A:=by rw [<-c];exact zA
   have t:A.heap[w1.heap.size]?= some (hV #[.int lg (p.data i:Int), .int lg p.g] 65 (0,0)):=by rw [<-c];exact heap_alloc_new w1 _
   obtain ⟨y0,y1,yf⟩:=bR t;have l:=s.trans (y.mono s.size);have z1:=(l.cell (p:=(zD (w.heap.size+1) 0)) (by show w.heap.size+1<_;rw [SZ.out];omega)).trans c1;have z2:=(l.cell (p:=(zD (w.heap.size+2) 0)) (by show w.heap.size+2<_;rw [SZ.out];omega)).trans c2;have FB:=zT HB l;clear s y t l;go_wp2_with fail;clear c;refine zg (WI.out _) λw3 s=>?_;have ca:=zT FB s;clear s;go_wp2_with fail;go_ret2;exact ⟨ca.out, .inl ⟨by rw [E.out];decide,by rw [E.out];rfl⟩⟩
   | true =>
   rw [hin]at WI E;have bS:=hT hin;clear hin;go_enter func127,ntmps127;go_wp2_with fail;clear H;refine zg F.out λw1 s=>?_;obtain ⟨A,c⟩:=eX2 (w1.alloc (hV #[.int lg (p.data i:Int), .int lg p.g] 65));have y:zB w1 A:=by rw [<-c];exact zA
   have t:A.heap[w1.heap.size]?= some (hV #[.int lg (p.data i:Int), .int lg p.g] 65 (0,0)):=by rw [<-c];exact heap_alloc_new w1 _
   obtain ⟨y0,y1,yf⟩:=bR t;have l:=s.trans (y.mono s.size);have z1:=(l.cell (p:=(zD (w.heap.size+1) 0)) (by show w.heap.size+1<_;rw [SZ.out];omega)).trans c1;have z2:=(l.cell (p:=(zD (w.heap.size+2) 0)) (by show w.heap.size+2<_;rw [SZ.out];omega)).trans c2;have A2:=hT (λw3 (h3:zB A w3)=>AT.out w1 A w3 _ s c h3 rfl bS.out);clear s y t l AT;go_wp2_with fail;clear c;refine zg (WI.out _) λw3 s=>?_;have A3:=hT (A2.out w3 s);clear s A2;go_wp2_with fail;refine A3.out.mono ?_;rintro e w4 ⟨rfl,hw,bx⟩;have HW:=hT hw;clear hw;go_wp2_with fail;go_ret2;refine ⟨HW.out, .inr ⟨by rw [E.out];rfl,i,FF.out,?_⟩⟩;rw [<-bX.out];rfl
theorem LC (w:World):zF 83 #[xb none] w (zQ (.bool false) w):=by go_enter func83,ntmps83;go_wp2_with fail;go_ret;exact ⟨rfl,rfl⟩
theorem Av (k:Int) (w:World):zF 120 #[xb none,zI k] w (zQ (.bool false) w):=by go_enter func120,ntmps120;go_wp2_with fail;go_ret;exact ⟨rfl,rfl⟩
def Br (p:Pa) (o:ae.Ob) (st:Dm.St) (w:World) (e:Ending) (w':World):Prop:= ((aa st (cy p)).2= 0/\zu p o false (aa st (cy p)).1 (vw p.N (-1)) w e w')\/ ((aa st (cy p)).2≠0/\e= zV (xb none) (zI (aa st (cy p)).2)/\ae.ai o (aa st (cy p)).1 w w')
theorem rC {o:ae.Ob} (hp:p.Ok) (h:ae.Dk w o st) (s:st.S.length= p.a) (O:st.P.length<=137438953472): zF 114 #[zP o.p, zO p.a p.n p.g, zM p.st p.ln,zU p.gen] w (Br p o st w):=by
 obtain ⟨z,y⟩:=eX2 ((w.alloc (zK p.a p.n p.g 85)).alloc (zE p.st p.ln 65));have U:=uv w _ _ _ _ _ z y;obtain ⟨l,⟨R,a1,a2,Q,b1⟩,_⟩:=U;have I:=hT l;have J:=hT (zt (h.below l) hp s);obtain ⟨X,F⟩:=eX1 ((aa st (cy p)).2);obtain ⟨st',j⟩:=eX1 ((aa st (cy p)).1);have AT:Hid (∀(b:Bk) (w1:World),Sk w1 b p false st (vw p.N (-1))->zF 159 #[.func (.func 162) #[zP b.q] #[]] w1 λe w'=>e= nf (zI X)/\ay b p false st' (vw p.N (-1)) w1 w'):=hT λb w1 hk=>by
  refine (qK hk (enters_of func162 (by kernel_rfl) rfl) (λx m L M=>x= X/\m= false/\L= st'/\M= vw p.N (-1)) λW hW l=>?_).mono ?_;· have:=KI (hk.below l) hp (Tq ..) O;refine zg this λw2 G=>?_;exact ⟨X,false,st',_,by rw [F];rfl,⟨rfl,rfl,rfl,rfl⟩,by rw [j];exact G⟩
  ·rintro e w' ⟨x,m,L,M,rfl,⟨rfl,rfl,rfl,rfl⟩,G⟩;exact ⟨rfl,G⟩
 unfold qJ at J;unfold Br zu;rw [<-F,<-j];clear h l s j F O;have u:Hid (∀(b b2:Bk) (w1 w2:World),b.d= o->z.heap.size<=b.q->(∀k,b.t.fp k->z.heap.size<=k)->zB w w1->Sk w2 b2 p false st' (vw p.N (-1))->Sp b b2 w1 w2-> Sk w2 b2 p false st' (vw p.N (-1))/\b2.d.p= o.p/\(∀k,b2.fp k->o.fp k\/w.heap.size<=k)/\(∀k,b2.d.fp k->o.fp k\/w.heap.size<=k)/\w.heap.size<=b2.q/\ae.Fr o.fp w w2):=hT λb b2 w1 w2 hd r v B f c=>by
  have H:=I.out.size;have D:∀k,b.fp k->o.fp k\/w.heap.size<=k:=λk hk=>by
   rcases hk with rfl|hk|hk;· exact .inr (A6 H r)
   ·rw [hd]at hk;exact .inl hk
   ·exact .inr (A6 H (v k hk))
  refine ⟨f,by rw [c.dp,hd],λk hk=>?_,λk hk=>?_,by rw [c.q];exact A6 H r,(ae.Fr.ax B:ae.Fr o.fp w w1).trans c.fr λk hk hf=>?_⟩;·
   rcases c.fp k hk with h|h;· exact D k h
   ·exact .inr (A6 B.size h)
  ·rcases c.df k hk with h|h;· rw [hd]at h;exact .inl h
   ·exact .inr (A6 B.size h)
  ·rcases D k hf with h|h;· exact h
   ·omega
 by_cases E:X= 0;· subst E;go_enter func114,ntmps114;go_wp2_with fail;clear y;refine J.out.mono ?_;rintro e w1 ⟨b,rfl,hk,hd,r,v,l⟩;have K:=hT (AT.out b w1 hk);have B:=zT I l;have i:Hid (b.d= o/\z.heap.size<=b.q/\(∀k,b.t.fp k->z.heap.size<=k)):=hT ⟨hd,r,v⟩;clear l hk hd r v R a1 a2 Q b1;go_wp2_with fail;refine K.out.mono ?_;rintro e w2 ⟨rfl,b2,f,c⟩;have A:=hT (u.out b b2 w1 w2 i.out.1 i.out.2.1 i.out.2.2 B.out f c);have C:=c.q;have HQ:=hT C;clear f c C;go_wp2_with fail;go_ret2;exact .inl ⟨trivial,b2,by rw [HQ.out];rfl,A.out⟩
 ·have T:(X != 0):=by simpa using E
  have HX:=hT E;go_enter func114,ntmps114;go_wp2_with fail;clear y;refine J.out.mono ?_;rintro e w1 ⟨b,rfl,hk,hd,r,v,l⟩;have K:=hT (AT.out b w1 hk);have B:=zT I l;have i:Hid (b.d= o/\z.heap.size<=b.q/\(∀k,b.t.fp k->z.heap.size<=k)):=hT ⟨hd,r,v⟩;clear l hk hd r v R a1 a2 Q b1 E;go_wp2_with fail;refine K.out.mono ?_;rintro e w2 ⟨rfl,b2,f,c⟩;have A:=hT (u.out b b2 w1 w2 i.out.1 i.out.2.1 i.out.2.2 B.out f c);clear f c;go_wp2_with fail;go_ret2;obtain ⟨f1,Z,f3,Y,f5,V⟩:=A.out;exact .inr ⟨HX.out,rfl,b2.d,f1.dk,V,Y,Z⟩
theorem Pw (n:Nat) (w:World) (h:n<=1048576):zF 130 #[zI n] w (zQ (zI (Tb.a_ n:Int)) w):=by
 have a:Tb.a_ n<=n:=by unfold Tb.a_;omega
 obtain ⟨P,b⟩:=eX1 (Tb.a_ n);rw [<-b]at a⊢;have d:=hT b;clear b;go_enter func130,ntmps130;go_wp2;go_loop [3] (λv=>∃k:Nat,v= zI k/\k<=P) (λv=>P - (wo v).toNat);case atStart=>exact ⟨0,rfl,yb _⟩
 case round=>
  obtain ⟨k,rfl,hk⟩:=hrel;have f:lg.wrap (13* (k:Int))= ((13*k:Nat):Int):=by rw [rr _ (by omega)];omega
  have e:lg.wrap ((k:Int) +1)= ((k+1:Nat):Int):=by rw [rr _ (by omega)];rfl
  by_cases g:k<P;·
   have c:13*k<n:=by have:=d.out;unfold Tb.a_ at this;omega
   go_wp2_with fail;go_round;case rel=>exact ⟨k+1,rfl,by omega⟩
   case measure=>simp [wo];omega
  ·obtain rfl:k= P:=by omega
   have c:¬13*k<n:=by have:=d.out;unfold Tb.a_ at this;omega
   go_wp2_with fail;go_ret;exact ⟨rfl,rfl⟩
end So
end
end Go.Proofs.YtchihokmgmchcaaGreat
