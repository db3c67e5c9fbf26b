/- M2, of the proof -/
import Derived.Test.YtchihokmgmchcaaGreatSrM1
import Derived.Test.YtchihokmgmchcaaGreatSq000
import Derived.Lib.SlKeysI
set_option linter.unusedVariables false
set_option maxRecDepth 100000
set_option maxHeartbeats 4000000
namespace Go.Proofs.YtchihokmgmchcaaGreat
open List renaming getD_eq_getElem?_getD->FU,getElem?_append_left->TE,getElem?_append_right->TY,getElem?_eq_getElem->C1,getElem?_eq_none->Tv,getElem?_eq_some_iff->C2,getElem?_of_mem->TF,getElem?_replicate->TR,getElem?_set->P4,getElem?_take->TQ,getElem_mem->SR,length_append->DC,length_filter_le->Uw,length_take->E4,mem_append->RR,mem_filter->Vd,mem_of_getElem?->P1,mem_range->RP,mem_replicate->UK,mem_singleton->H5,mergeSort_perm->Ve,nodup_append->XD,nodup_cons->VB,pairwise_iff_getElem->Ub,range->MR,replicate->vw,take_take->UR
open Bool renaming and_eq_false_iff->Wx
open Option renaming getD_some->Vf
open Nat renaming lt_or_eq_of_le->XF,min_eq_left->UQ
open Int renaming toNat_natCast->GH
section
namespace Tb
variable{p:Int→Bool}{m:zN}{i:Nat}
theorem wu :m.findIdx? p= some i↔(∃x,m[i]?= some x/\p x= true)/\∀j x,j<i->m[j]?= some x->p x= false:=by
 rw [List.findIdx?_eq_some_iff_getElem];constructor;· rintro ⟨h,hp,b⟩;refine ⟨⟨m[i],by simp [h],hp⟩,λj x hj a=>?_⟩;obtain ⟨c,rfl⟩:=C2.1 a;simpa using b j hj
 ·rintro ⟨⟨x,a,hp⟩,b⟩;obtain ⟨c,rfl⟩:=C2.1 a;exact ⟨c,hp,λj hj=>by simpa using b j _ hj (C1 (by omega))⟩
theorem wy :m.findIdx? p= none↔∀x∈m,p x= false:=by simp [List.findIdx?_eq_none_iff]
def find (m:zN) (k:Int):Option Nat:=m.findIdx? (λx=>decide (x= k) && decide (0<=k))
variable{k:Int}
theorem iz :find m k= some i↔0<=k/\m[i]?= some k/\∀j,j<i->m[j]?≠some k:=by
 unfold find;rw [wu];constructor;· rintro ⟨⟨x,a,hp⟩,b⟩;simp at hp;obtain ⟨rfl,c⟩:=hp;exact ⟨c,a,λj hj hc=>by have:=b j _ hj hc;simp at this;omega⟩
 ·rintro ⟨c,a,b⟩;refine ⟨⟨k,a,by simp [c]⟩,λj x hj hc=>?_⟩;have:=b j hj;simp only [Wx,decide_eq_false_iff_not];left;intro e;subst e;exact this hc
theorem ic :find m k= none↔(0<=k->k∉m):=by
 unfold find;rw [wy];constructor;· intro h a hm;have:=h k hm;simp at this;omega
 ·intro h x b;simp only [Wx,decide_eq_false_iff_not];by_cases a:0<=k;· left;intro e;subst e;exact h a b
  ·exact .inr a
def bn (m:zN):Option Nat:=m.findIdx? (λx=>decide (x<0))
theorem jw :bn m= some i↔(∃x,m[i]?= some x/\x<0)/\∀j x,j<i->m[j]?= some x->0<=x:=by unfold bn;rw [wu];simp
theorem wA :bn m= none↔∀x∈m,0<=x:=by unfold bn;rw [wy];simp
theorem wB (h:bn m= some i):i<m.length:=by obtain ⟨⟨x,a,_⟩,_⟩:=jw.1 h;exact (C2.1 a).1
theorem wC (h:find m k= some i):i<m.length:=(C2.1 (iz.1 h).2.1).1
def put (m:zN) (k:Int):List Int×Int×Int:= if 0<=k/\k<=2147483646 then match find m k with
 | some i=>(m,(i:Int),0)
 | none => match bn m with
 | some i=>(m.set i k,(i:Int),0)
 | none=>(m,0,111) else (m,0,1)
def drop (m:zN) (k:Int):List Int×Int×Int:=match find m k with
 | some i=>(m.set i (-1),(i:Int),0)
 | none=>(m,0,161)
theorem pq (h:¬(0<=k/\k<=2147483646)):put m k= (m,0,1):=by unfold put;rw [if_neg h]
theorem wD (h:0<=k/\k<=2147483646) {i:Nat} (a:find m k= some i):put m k= (m,(i:Int),0):=by unfold put;rw [if_pos h,a]
theorem pt (h:0<=k/\k<=2147483646) (b:find m k= none) {i:Nat} (a:bn m= some i):put m k= (m.set i k,(i:Int),0):=by unfold put;rw [if_pos h,b];simp only [a]
theorem pw (h:0<=k/\k<=2147483646) (b:find m k= none) (a:bn m= none):put m k= (m,0,111):=by unfold put;rw [if_pos h,b];simp only [a]
structure Ok (m:zN):Prop where
 aS:m.length<=1048576
 bU:∀x∈m, -1<=x/\x<=2147483646
 py:∀(i j:Nat) (k:Int),m[i]?= some k->m[j]?= some k->0<=k->i= j
theorem Ok.find (h:Ok m) {k:Int} {i:Nat} (a:0<=k) (hi:m[i]?= some k):find m k= some i:= iz.2 ⟨a,hi,λj hj hc=>by have:=h.py i j k hi hc a;omega⟩
theorem Ok.set (h:Ok m) {k:Int} (i:Nat) (h1: -1<=k) (f:k<=2147483646) (hm:0<=k->k∉m):Ok (m.set i k):=by
 refine ⟨by simpa using h.aS,λx d=>?_,λa b x ha hb h0=>?_⟩;·
  rcases List.mem_or_eq_of_mem_set d with d|rfl;· exact h.bU x d
  ·exact ⟨h1,f⟩
 ·rw [P4]at ha hb;by_cases e:i= a;·
   by_cases c:i= b;· omega
   ·rw [if_pos e]at ha;rw [if_neg c]at hb;split at ha;· injection ha with ha;subst ha;exact (hm h0 (P1 hb)).elim
    ·cases ha
  ·rw [if_neg e]at ha;by_cases c:i= b;·
    rw [if_pos c]at hb;split at hb;· injection hb with hb;subst hb;exact (hm h0 (P1 ha)).elim
    ·cases hb
   ·rw [if_neg c]at hb;exact h.py a b x ha hb h0
theorem sA (n:Nat) (h:n<=1048576):Ok (vw n (-1)):=by
 refine ⟨by simpa using h,λx hx=>by rw [(UK.1 hx).2];omega,λi j k hi hj h0=>?_⟩;rw [TR]at hi;split at hi;· injection hi with hi;omega
 ·cases hi
def full (n:Nat) (c:zN):zN:=c ++ vw (n - c.length) (-1)
variable{n:Nat}{c:zN}
theorem nv (h:c.length<=n):(full n c).length= n:=by simp [full];omega
theorem wF (n:Nat):full n []= vw n (-1):=by simp [full]
theorem l_ (h:i<c.length):(full n c)[i]?= c[i]?:=by unfold full;rw [TE h]
theorem wG (h:c.length<=i) (a:i<n):(full n c)[i]?= some (-1):=by unfold full;rw [TY h,TR,if_pos (by omega)]
theorem wH (h:(full n c)[i]?= some k) (a:0<=k):c[i]?= some k:=by
 by_cases hi:i<c.length;· rwa [l_ hi]at h
 ·unfold full at h;rw [TY (by omega),TR]at h;split at h;· injection h with h;omega
  ·cases h
theorem pz (x:Int) (h:i<c.length):(full n c).set i x= full n (c.set i x):=by unfold full;rw [List.set_append_left _ _ h,List.length_set]
theorem pA (h:c.length<n):full n (c ++ [-1])= full n c:=by unfold full;rw [List.append_assoc];congr 1;rw [DC,List.length_singleton,show n - c.length= (n - (c.length+1)) +1 by omega,List.replicate_succ];rfl
theorem pB (x:Int) (h:c.length<n):(full n c).set c.length x= full n (c ++ [x]):=by rw [<-pA h,pz x (by simp)];congr 1;rw [List.set_append_right _ _ (Nat.le_refl _)];simp
theorem ma (a:0<=k):k∈full n c↔k∈c:=by
 unfold full;rw [RR];constructor;·
  rintro (h|h);· exact h
  ·have:=(UK.1 h).2;omega
 ·exact .inl
structure Pr (n:Nat) (c g:zN):Prop where
 len:c.length<=n
 ok:Ok (full n c)
 heap:Hp.Heap g
 nodup:g.Nodup
 mem:∀x,x∈g↔∃i:Nat,x= (i:Int)/\c[i]?= some (-1)
variable{g:zN}
theorem Pr.aS (h:Pr n c g):n<=1048576:=by have:=h.ok.aS;rwa [nv h.len]at this
theorem Pr.bU (h:Pr n c g) {i:Nat} {k:Int} (hi:c[i]?= some k): -1<=k/\k<=2147483646:=h.ok.bU k (by unfold full;exact RR.2 (.inl (P1 hi)))
theorem Pr.wI (h:Pr n c g):g.length<=c.length:=by
 have hp:g.Perm (((MR c.length).filter (λi=>c[i]? == some (-1))).map λi:Nat=>(i:Int)):=by
  refine (List.perm_ext_iff_of_nodup h.nodup ?_).2 λx=>?_;· refine List.pairwise_map.2 ((List.nodup_range.filter _).imp λ{a b} hne e=>hne (by omega))
  ·rw [h.mem x,List.mem_map];constructor;· rintro ⟨i,rfl,hi⟩;exact ⟨i,Vd.2 ⟨RP.2 (C2.1 hi).1,by rw [hi];rfl⟩,rfl⟩
   ·rintro ⟨i,hi,rfl⟩;have d:=(Vd.1 hi).2;exact ⟨i,rfl,beq_iff_eq.1 d⟩
 rw [hp.length_eq,List.length_map];exact Nat.le_trans (Uw _ _) (by simp)
theorem Pr.new (n:Nat) (h:n<=1048576):Pr n [] []:=⟨Nat.zero_le _,by rw [wF];exact sA n h,Hp.DW,List.nodup_nil,λx=>by simp⟩
theorem Pr.more {g':zN} (h:Pr n c g) (d:c.length<n) (hp:g'.Perm (g ++ [(c.length:Int)])) (f:Hp.Heap g'):Pr n (c ++ [-1]) g':=by
 refine ⟨by simp;omega,by rw [pA d];exact h.ok,f,?_,λx=>?_⟩;· refine hp.nodup_iff.2 (XD.2 ⟨h.nodup,by simp,λa ha b hb=>?_⟩);rw [H5.1 hb];obtain ⟨i,rfl,hi⟩:=(h.mem a).1 ha;have:=(C2.1 hi).1;omega
 ·rw [hp.mem_iff,RR,h.mem x,H5];constructor;·
   rintro (⟨i,rfl,hi⟩|rfl);· exact ⟨i,rfl,by rw [TE (C2.1 hi).1];exact hi⟩
   ·exact ⟨c.length,rfl,by simp⟩
  ·rintro ⟨i,rfl,hi⟩;by_cases e:i<c.length;· rw [TE e]at hi;exact .inl ⟨i,rfl,hi⟩
   ·have:=(C2.1 hi).1;simp at this;exact .inr (by omega)
theorem Pr.snoc (h:Pr n c g) (a:c.length<n) {k:Int} (d:0<=k) (h1:k<=2147483646) (hk:k∉c):Pr n (c ++ [k]) g:=by
 refine ⟨by simp;omega,by rw [<-pB k a];exact h.ok.set _ (by omega) h1 (λ_=>by rw [ma d];exact hk),h.heap,h.nodup,λx=>?_⟩;rw [h.mem x];constructor;· rintro ⟨i,rfl,hi⟩;exact ⟨i,rfl,by rw [TE (C2.1 hi).1];exact hi⟩
 ·rintro ⟨i,rfl,hi⟩;by_cases b:i<c.length;· rw [TE b]at hi;exact ⟨i,rfl,hi⟩
  ·rw [TY (by omega)]at hi;cases e:i - c.length with
   | zero=>rw [e]at hi;simp at hi;omega
   | succ j=>rw [e]at hi;simp at hi
theorem Pr.fill {g':zN} (h:Pr n c g) {i:Nat} (hp:((i:Int) :: g').Perm g) (m:Hp.Heap g') {k:Int} (p:0<=k) (h1:k<=2147483646) (hk:k∉c):c[i]?= some (-1)/\Pr n (c.set i k) g':=by
 have hi:c[i]?= some (-1):=by
  obtain ⟨j,b,o⟩:=(h.mem (i:Int)).1 (hp.mem_iff.1 (by simp));have:i= j:=by omega
  rw [this];exact o
 have l:=(C2.1 hi).1;have d:=hp.nodup_iff.2 h.nodup;rw [VB]at d;refine ⟨hi,⟨by simpa using h.len,by rw [<-pz k l];exact h.ok.set _ (by omega) h1 (λ_=>by rw [ma p];exact hk),m,d.2,λx=>?_⟩⟩;have f:x∈g'↔x∈g/\x≠(i:Int):=by
  rw [<-hp.mem_iff,List.mem_cons];constructor;· exact λf=>⟨.inr f,λe=>d.1 (e▸f)⟩
  ·rintro ⟨rfl|f,a⟩;· exact (a rfl).elim
   ·exact f
 rw [f,h.mem x];constructor;· rintro ⟨⟨j,rfl,b⟩,a⟩;exact ⟨j,rfl,by rw [P4,if_neg (λe=>a (by rw [e]))];exact b⟩
 ·rintro ⟨j,rfl,b⟩;rw [P4]at b;by_cases a:i= j;· rw [if_pos a,if_pos l]at b;injection b with b;omega
  ·rw [if_neg a]at b;exact ⟨⟨j,rfl,b⟩,λe=>a (by omega)⟩
theorem Pr.free {g':zN} (h:Pr n c g) {i:Nat} {k:Int} (hi:c[i]?= some k) (m:0<=k) (hp:g'.Perm (g ++ [(i:Int)])) (l:Hp.Heap g'):Pr n (c.set i (-1)) g':=by
 have f:=(C2.1 hi).1;refine ⟨by simpa using h.len,by rw [<-pz (-1) f];exact h.ok.set _ (by omega) (by omega) (λc=>by omega),l,?_,λx=>?_⟩;·
  refine hp.nodup_iff.2 (XD.2 ⟨h.nodup,by simp,λa ha b hb=>?_⟩);rw [H5.1 hb];obtain ⟨j,rfl,d⟩:=(h.mem a).1 ha;intro e;have:j= i:=by omega
  rw [this,hi]at d;injection d with d;omega
 ·rw [hp.mem_iff,RR,h.mem x,H5];constructor;·
   rintro (⟨j,rfl,d⟩|rfl);·
    refine ⟨j,rfl,?_⟩;rw [P4];by_cases e:i= j;· rw [if_pos e,if_pos f]
    ·rw [if_neg e];exact d
   ·exact ⟨i,rfl,by rw [P4,if_pos rfl,if_pos f]⟩
  ·rintro ⟨j,rfl,d⟩;rw [P4]at d;by_cases e:i= j;· exact .inr (by rw [e])
   ·rw [if_neg e]at d;exact .inl ⟨j,rfl,d⟩
theorem Pr.Ea (h:Pr n c g) (l:g≠ []):∃i:Nat,Hp.at_ g 0= (i:Int)/\bn (full n c)= some i:=by
 have o:=List.length_pos_iff.2 l;obtain ⟨i,hi,k⟩:=(h.mem (Hp.at_ g 0)).1 (Hp.at_mem g 0 o);have f:=(C2.1 k).1;refine ⟨i,hi,jw.2 ⟨⟨-1,by rw [l_ f];exact k,by omega⟩,λj x hj hx=>?_⟩⟩;rw [l_ (by omega)]at hx;by_cases d:0<=x;· exact d
 ·have:=h.bU hx;have b:x= -1:=by omega
  rw [b]at hx;obtain ⟨a,m,e⟩:=Hp.DV ((h.mem (j:Int)).2 ⟨j,rfl,hx⟩);have:=Hp.DX h.heap a m;omega
theorem Pr.Ec (h:Pr n c []) (d:c.length<n):bn (full n c)= some c.length:=by
 refine jw.2 ⟨⟨-1,wG (Nat.le_refl _) d,by omega⟩,λj x hj hx=>?_⟩;rw [l_ hj]at hx;by_cases b:0<=x;· exact b
 ·have:=h.bU hx;have a:x= -1:=by omega
  rw [a]at hx;have:=(h.mem (j:Int)).2 ⟨j,rfl,hx⟩;simp at this
def used (m:zN):zN:=m.filter (λx=>decide (0<=x))
variable{x:Int}
theorem nw :x∈used m↔x∈m/\0<=x:=by simp [used]
theorem nx (h:Ok m):(used m).Nodup:=by
 have:∀s:zN,(∀(i j:Nat) (k:Int),s[i]?= some k->s[j]?= some k->0<=k->i= j)->(used s).Nodup:=by intro s;induction s with
  | nil=>intro _;simp [used]
  | cons x s ih =>
  intro hu;have a:=ih λi j k hi c h0=>by have:=hu (i+1) (j+1) k (by simpa using hi) (by simpa using c) h0;omega
  by_cases b:0<=x;· rw [show used (x :: s)= x :: used s by simp [used,b],VB];refine ⟨λhm=>?_,a⟩;obtain ⟨j,c⟩:=TF (nw.1 hm).1;have:=hu 0 (j+1) x rfl (by simpa using c) b;omega
  ·rw [show used (x :: s)= used s by simp [used,b]];exact a
 exact this m h.py
theorem me (n:Nat) (c:zN):used (full n c)= used c:=by unfold used full;rw [List.filter_append];simp
theorem mf (m:zN):(used m).length<=m.length:=Uw _ _
theorem pC :bn m= none↔m.length= (used m).length:=by
 rw [wA];unfold used;constructor;· intro h;rw [List.filter_eq_self.2 (λx a=>by simpa using h x a)]
 ·intro h x a;have:=List.length_filter_eq_length_iff.1 h.symm x a;simpa using this
def keys (m:zN):zN:=(used m).mergeSort (λx y=>decide (x<=y))
def entry (m:zN) (k:Int):Int×Int:=(k,(((find m k).getD 0:Nat):Int))
def all (m:zN):zX:=(keys m).map (entry m)
theorem kU :x∈keys m↔x∈m/\0<=x:=by unfold keys;rw [(Ve _ _).mem_iff,nw]
theorem ny (m:zN):(keys m).length= (used m).length:=(Ve _ _).length_eq
theorem mh (m:zN):(all m).length= (used m).length:=by simp [all,ny]
theorem wJ (h:Ok m):(keys m).Pairwise (λx y=>x<y):=by have d:(keys m).Pairwise (λx y=>(decide (x<=y))= true):=List.pairwise_mergeSort (λa b c h1 h2=>by simp at *;omega) (λa b=>by simp;omega) _;have e:(keys m).Nodup:=(Ve _ _).nodup_iff.2 (nx h);refine (List.Pairwise.and d e).imp λ{a b} hab=>?_;have:=of_decide_eq_true hab.1;have:=hab.2;omega
def last (m:zN) (r:Nat):Int:=if r= 0 then -1 else (keys m).getD (r - 1) 0
theorem Ed {r:Nat} (h:(keys m)[r]?= some x):last m (r+1)= x:=by unfold last;rw [if_neg (by omega),Nat.add_sub_cancel,FU,h];rfl
theorem Ee (m:zN) (h:Ok m) (r:Nat) (b:r<=(keys m).length): -1<=last m r:=by
 unfold last;split;· omega
 ·have a:r - 1< (keys m).length:=by omega
  rw [FU,C1 a];have:=(kU.1 (SR a)).2;simp only [Vf];omega
theorem wK (h:Ok m) {i j:Nat} (hi:i< (keys m).length) (b:j< (keys m).length) (a:i<=j):(keys m)[i]<=(keys m)[j]:=by
 rcases XF a with e|e;· have:=Ub.1 (wJ h) i j hi b e;omega
 ·subst e;exact Int.le_refl _
theorem wL (h:Ok m) {r:Nat} (a:r< (keys m).length):last m r< (keys m)[r]:=by
 unfold last;split;· have:=(kU.1 (SR a)).2;omega
 ·rw [FU,C1 (by omega)];exact Ub.1 (wJ h) (r - 1) r (by omega) a (by omega)
theorem Ef (h:Ok m) {r:Nat} (b:r<=(keys m).length) (a:∀y∈m,y<=last m r):r= (keys m).length:=by
 rcases XF b with e|e;· have h1:=wL h e;have c:=a _ (kU.1 (SR e)).1;omega
 ·exact e
theorem Eg (h:Ok m) {r:Nat} (k:r<=(keys m).length) {x:Int} (i:x∈m) (d:last m r<x) (b:∀y∈m,last m r<y->x<=y):(keys m)[r]?= some x:=by
 have n:=Ee m h r k;obtain ⟨j,g,e⟩:=List.getElem_of_mem (kU.2 ⟨i,by omega⟩);have c:r<=j:=by
  rcases Nat.lt_or_ge j r with l|f;· unfold last at d;rw [if_neg (by omega),FU,C1 (by omega)]at d;have:=wK h g (show r - 1<_ by omega) (by omega);simp only [Vf]at d;omega
  ·exact f
 have a:r< (keys m).length:=by omega
 have h1:=b _ (kU.1 (SR a)).1 (wL h a);have o:=wK h a g c;rw [C1 a];congr 1;omega
def a_ (n:Nat):Nat:=(n+12) / 13
def ar (m:zN) (i:Nat):zN:=(MR 13).map λk=>(m[13*i+k]?).getD (-1)
theorem mi (m:zN) (i:Nat):(ar m i).length= 13:=by simp [ar]
theorem sB (m:zN) (i k:Nat) (h:k<13):(ar m i)[k]?= some ((m[13*i+k]?).getD (-1)):=by simp [ar,h]
theorem Eh (i:Nat):ar (full n c) i= ar c i:=by
 unfold ar;refine List.map_congr_left λk _=>?_;by_cases h:13*i+k<c.length;· rw [l_ h]
 ·by_cases a:13*i+k<n;· rw [wG (by omega) a,Tv (by omega)];rfl
  ·have d:(full n c)[13*i+k]?= none:=Tv (by unfold full;rw [DC,List.length_replicate];omega);have b:c[13*i+k]?= none:=Tv (by omega);rw [d,b]
def flat (m:zN) (q:Nat):zN:=(MR q).flatMap (ar m)
theorem sC (m:zN) (q:Nat):flat m (q+1)= flat m q ++ ar m q:=by simp [flat,List.range_succ]
theorem ix (m:zN) (q:Nat):(flat m q).length= 13*q:=by induction q with
 | zero=>rfl
 | succ q ih=>rw [sC,DC,ih,mi];omega
theorem lR (m:zN) (q j:Nat) (h:j<13*q):(flat m q)[j]?= some ((m[j]?).getD (-1)):=by induction q with
 | zero=>omega
 | succ q ih =>
 rw [sC];by_cases a:j<13*q;· rw [TE (by rw [ix];exact a)];exact ih a
 ·rw [TY (by rw [ix];omega),ix,sB _ _ _ (by omega),show 13*q+ (j - 13*q)= j by omega]
def iY (n:Nat) (l:zN) (i:Nat):Bool:=match l[i]? with
 | some x=>decide (x≠ -1) && (!(decide (0<=x/\x<=2147483646))|| decide (n<=i)|| (l.take i).contains x)
 | none=>false
variable{l:zN}
theorem nz (h:l[i]?= some x):iY n l i= true↔x≠ -1/\(¬(0<=x/\x<=2147483646)\/n<=i\/x∈l.take i):=by unfold iY;rw [h];simp only [Bool.and_eq_true,Bool.or_eq_true,Bool.not_eq_true',decide_eq_true_eq,decide_eq_false_iff_not,List.contains_iff_mem];simp [or_assoc]
def pD (n:Nat) (l:zN):Bool:=(MR l.length).any (iY n l)
def gM (p:Int) (l:zN):Int:=if p<0\/p>1048576\/l.length≠a_ p.toNat*13 then 1 else if pD p.toNat l then 165 else 0
theorem Ei (hi:i<l.length) (h:iY n l i):pD n l= true:=List.any_eq_true.2 ⟨i,RP.2 hi,h⟩
theorem wM (h:∀i,i<l.length->iY n l i= false):pD n l= false:=by unfold pD;rw [List.any_eq_false];intro i hi;rw [h i (RP.1 hi)];decide
def pad (n:Nat) (s:zN):zN:=full n (s.take n)
theorem Ej (h:n<=l.length):pad n l= l.take n:=by unfold pad full;rw [E4,UQ h,Nat.sub_self];simp
theorem sD {k:Nat} (h:l[k]?= some x):l.take (k+1)= l.take k ++ [x]:=by rw [List.take_add_one,h];rfl
theorem pE {k:Nat} (h:k<=n):(l.take k).take n= l.take k:=by rw [UR,Nat.min_eq_right h]
theorem El {k:Nat} (h:l[k]?= some (-1)):pad n (l.take (k+1))= pad n (l.take k):=by
 have hk:=(C2.1 h).1;have e:(l.take k).length= k:=by rw [E4];omega
 unfold pad;by_cases a:k<n;· rw [pE a,pE (Nat.le_of_lt a),sD h,pA (by omega)]
 ·rw [UR,UR,UQ (by omega),UQ (by omega)]
theorem Eo {k:Nat} (h:l[k]?= some x) (a:k<n):pad n (l.take (k+1))= (pad n (l.take k)).set k x:=by
 have hk:=(C2.1 h).1;have e:(l.take k).length= k:=by rw [E4];omega
 unfold pad;rw [pE a,pE (Nat.le_of_lt a),sD h,<-pB x (by omega),e]
theorem Ep {k:Nat} (g:0<=x) (b:∀j,j<k->iY n l j= false):x∈pad n (l.take k)↔x∈l.take k:=by
 unfold pad;rw [ma g];constructor;· exact λh=>List.mem_of_mem_take h
 ·intro h;obtain ⟨j,c⟩:=TF h;have a:j<k:=by have:=(C2.1 c).1;simp at this;omega
  rw [TQ,if_pos a]at c;have f:=b j a;have d:j<n:=by
   rcases Nat.lt_or_ge j n with e|e;· exact e
   ·rw [(nz c).2 ⟨by omega, .inr (.inl e)⟩]at f;cases f
  exact P1 (i:=j) (by rw [TQ,if_pos d,TQ,if_pos a];exact c)
theorem sE :(flat m (a_ m.length)).take m.length= m:=by
 apply List.ext_getElem?;intro j;rw [TQ];by_cases h:j<m.length;· rw [if_pos h,lR _ _ _ (by unfold a_;omega),C1 h];rfl
 ·rw [if_neg h,Tv (by omega)]
theorem Er (h:Ok m):gM (m.length:Int) (flat m (a_ m.length))= 0:=by
 have k:=h.aS;unfold gM;rw [if_neg (by
  rintro (h1|h1|h1);· omega
  ·omega
  ·exact h1 (by rw [ix,GH];omega))];rw [if_neg];rw [GH,wM];· decide
 intro i hi;rw [ix]at hi;have e:=lR m (a_ m.length) i hi;rw [Bool.eq_false_iff];intro g;obtain ⟨h1,a⟩:=(nz e).1 g;by_cases c:i<m.length;·
  rw [C1 c]at h1 a e;simp only [Vf]at h1 a e;have f:=h.bU m[i] (SR c);rcases a with a|a|a;· exact a ⟨by omega,f.2⟩
  ·omega
  ·obtain ⟨j,b⟩:=TF a;have d:=(C2.1 b).1;rw [E4,ix]at d;rw [TQ,if_pos (by omega),lR _ _ _ (by omega),C1 (by omega)]at b;simp only [Vf]at b;have:=h.py j i m[i] (by rw [C1 (by omega)];exact b) (C1 c) (by omega);omega
 ·rw [Tv (by omega)]at h1;exact h1 rfl
end Tb
end
end Go.Proofs.YtchihokmgmchcaaGreat
