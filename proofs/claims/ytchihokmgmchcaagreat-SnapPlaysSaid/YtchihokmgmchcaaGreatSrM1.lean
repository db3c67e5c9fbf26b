/- M1, of the proof -/
import Derived.Test.YtchihokmgmchcaaGreatSq000
import Derived.KernelRfl
set_option linter.unusedVariables false
set_option maxRecDepth 100000
set_option maxHeartbeats 4000000
namespace Go.Proofs.YtchihokmgmchcaaGreat
open Nat renaming add_mul->TV,div_add_mod->Uf,eq_zero_or_pos->VO,le_add_right->UL,le_refl->nm,mod_eq_of_lt->U_,mod_lt->Tu,mul_comm->SH,mul_le_mul_left->Wh,mul_le_mul_right->UH,mul_zero->TW,succ_eq_add_one->Wu
open List renaming append_assoc->NR,cons_append->TN,drop_drop->Uu,drop_left->Uo,drop_of_length_le->Ut,drop_zero->TA,extract_eq_take_drop->Wp,flatten_cons->Vc,foldl_cons->Wv,getD_cons_succ->XA,getD_cons_zero->Xz,getD_eq_getElem?_getD->FU,getElem?_eq_getElem->C1,getElem?_set->P4,getElem_mem->SR,length_append->DC,length_cons->Tl,length_drop->IV,length_set->TB,length_take->E4,map_congr_left->Ua,map_cons->UJ,map_map->VQ,mem_append->RR,mem_cons_of_mem->SC,mem_cons_self->SD,mem_range->RP,mem_singleton->H5,nil_append->TJ,range->MR,range_succ->TO,range_succ_eq_map->Wq,replicate->vw,take_append_drop->T8,take_append_of_le_length->Uq,take_of_length_le->OP
open _root_.ByteArray renaming data_extract->Wk,ext->VP
open _root_.Array renaming toList_extract->Wo
open UInt8 renaming ofNat->Vy
open Function renaming comp->Wt
open Int renaming le_refl->T9,le_trans->VT,toNat_natCast->GH
section
namespace Em
def aM (o c:Int):Bool:=decide (1<=o) && (decide (o<=1048576) && (decide (1<=c) && decide (c<=128)))
theorem cM (o c:Int):aM o c= true↔1<=o/\o<=1048576/\1<=c/\c<=128:=by unfold aM;simp
theorem rV {o c:Int} (h:aM o c):∃a b:Nat,o= (a:Int)/\c= (b:Int)/\1<=a/\a<=1048576/\1<=b/\b<=128:=by obtain ⟨h1,f,e,d⟩:=(cM o c).1 h;exact ⟨o.toNat,c.toNat,by omega,by omega,by omega,by omega,by omega,by omega⟩
def parts (n s:Nat):Nat:=n / s+ (if n % s= 0 then 0 else 1)
theorem CT {n s:Nat} (a:0<s):n<=parts n s*s:=by
 have h:=Uf n s;have hm:=Tu n a;unfold parts;rw [SH]at h;by_cases e:n % s= 0;· rw [if_pos e];simp;omega
 ·rw [if_neg e,TV];omega
theorem kL {n s k:Nat} (b:0<s):k<parts n s↔k*s<n:=by
 have h:=Uf n s;have hm:=Tu n b;rw [SH]at h;have hp:=CT (n:=n) b;constructor;·
  intro hk;unfold parts at hk;by_cases e:n % s= 0;· rw [if_pos e]at hk;have:(k+1) *s<=n / s*s:=UH _ (by omega);rw [TV]at this;omega
  ·rw [if_neg e]at hk;have:k*s<=n / s*s:=UH _ (by omega);omega
 ·intro hk;apply Nat.lt_of_mul_lt_mul_right (a:=s);omega
theorem iw (n s:Nat):parts n s<=n:=by
 unfold parts;have h1:=Nat.div_le_self n s;by_cases e:n % s= 0;· rw [if_pos e];exact h1
 ·rw [if_neg e];rcases VO s with h|h;· subst h;simp at e⊢;omega
  ·by_cases c:s= 1;· subst c;omega
   ·have b:0<n:=by
     rcases VO n with a|a;· subst a;simp at e
     ·exact a
    have:=Nat.div_lt_self b (by omega:1<s);omega
structure Pc where
 c:Nat
 f:Nat
 n:Nat
def cut (c:Nat):Nat->Nat->Nat->List Pc
 | 0,_,_=> []
 | k+1,next,stop=>if next<stop then ⟨next / c,next % c,min (c - next % c) (stop - next)⟩ :: cut c k (next+min (c - next % c) (stop - next)) stop else []
theorem nj (c k next:Nat):cut c k next next= []:=by cases k with
 | zero=>rfl
 | succ k=>unfold cut;rw [if_neg (by omega)]
variable{c:Nat}
theorem CU (a:0<c):∀(k j next stop:Nat),stop - next≤k→stop - next≤j→cut c k next stop= cut c j next stop:=by
  intro k
  induction k with
  | zero =>
    intro j next stop h1 b
    cases j with
    | zero=>rfl
    | succ j=>unfold cut;rw [if_neg (by omega)]
  | succ k ih =>
    intro j next stop h1 b
    cases j with
    | zero=>unfold cut;rw [if_neg (by omega)]
    | succ j =>
      by_cases h:next<stop
      · have hm:=Tu next a
        unfold cut
        rw [if_pos h,if_pos h,ih j (next+min (c - next % c) (stop - next)) stop (by omega) (by omega)]
      · unfold cut;rw [if_neg h,if_neg h]
theorem CV (c:Nat):∀(k next stop:Nat),(cut c k next stop).length<=k:=by intro k;induction k with
 | zero=>intro n s;simp [cut]
 | succ k ih =>
 intro next stop;unfold cut;by_cases h:next<stop;· rw [if_pos h,Tl];have:=ih (next+min (c - next % c) (stop - next)) stop;omega
 ·rw [if_neg h];simp
def split (c a n:Nat):List Pc:=cut c n a (a+n)
def bump:List Pc->List Pc
 | []=> []
 | [x]=> [⟨x.c,x.f,x.n+1⟩]
 | x :: y :: l=>x :: bump (y :: l)
theorem vJ (x:Pc) {l:List Pc} (h:l≠ []):bump (x :: l)= x :: bump l:=by cases l with
 | nil=>exact (h rfl).elim
 | cons y l=>rfl
theorem CW (l:List Pc) (x:Pc):bump (l ++ [x])= l ++ [⟨x.c,x.f,x.n+1⟩]:=by induction l with
 | nil=>rfl
 | cons y l ih=>rw [TN,vJ y (by simp),ih];rfl
theorem CX {next m:Nat} (h:next % c+m<c):(next+m) % c= next % c+m:=by rw [Nat.add_mod,U_ (by omega:m<c),U_ h]
theorem vK {next m:Nat} (a:0<c) (h:next % c+m= c):(next+m) % c= 0:=by
 rw [Nat.add_mod];by_cases e:m<c;· rw [U_ e,h,Nat.mod_self]
 ·have:m= c:=by omega
  rw [this,Nat.mod_self];have:next % c= 0:=by omega
  rw [this];simp
theorem CZ (d:0<c):∀(k next stop:Nat),next<=stop->stop - next<=k-> cut c (k+1) next (stop+1)= if next<stop/\stop % c≠0 then bump (cut c k next stop) else cut c k next stop ++ [⟨stop / c,stop % c,1⟩]:=by intro k;induction k with
 | zero =>
 intro next stop h1 j;have e:next= stop:=by omega
 subst e;have hm:=Tu next d;rw [if_neg (by omega)];unfold cut;rw [if_pos (by omega),show min (c - next % c) (next+1 - next)= 1 by omega];rfl
 | succ k ih =>
 intro next stop h1 j;have hm:=Tu next d;by_cases e:next= stop;· subst e;rw [if_neg (by omega),nj];unfold cut;rw [if_pos (by omega),show min (c - next % c) (next+1 - next)= 1 by omega,nj];rfl
 ·have a:next<stop:=by omega
  by_cases p:stop - next<c - next % c;·
   have g:stop % c= next % c+ (stop - next):=by have:=CX (next:=next) (c:=c) (m:=stop - next) (by omega);rwa [show next+ (stop - next)= stop by omega]at this
   rw [if_pos ⟨a,by omega⟩];unfold cut;rw [if_pos (by omega),if_pos a,show min (c - next % c) (stop+1 - next)= stop+1 - next by omega,show min (c - next % c) (stop - next)= stop - next by omega, show next+ (stop+1 - next)= stop+1 by omega,show next+ (stop - next)= stop by omega,nj,nj];show _= [Pc.mk (next / c) (next % c) (stop - next+1)];rw [show stop+1 - next= stop - next+1 by omega]
  ·have hle:next+ (c - next % c)<=stop:=by omega
   have i:=ih (next+ (c - next % c)) stop hle (by omega);have o:cut c (k+1+1) next (stop+1)= ⟨next / c,next % c,c - next % c⟩ :: cut c (k+1) (next+ (c - next % c)) (stop+1):=by rw [show cut c (k+1+1) next (stop+1)= if next<stop+1 then ⟨next / c,next % c,min (c - next % c) (stop+1 - next)⟩ :: cut c (k+1) (next+min (c - next % c) (stop+1 - next)) (stop+1) else []from rfl];rw [if_pos (by omega),show min (c - next % c) (stop+1 - next)= c - next % c by omega]
   have n:cut c (k+1) next stop= ⟨next / c,next % c,c - next % c⟩ :: cut c k (next+ (c - next % c)) stop:=by rw [show cut c (k+1) next stop= if next<stop then ⟨next / c,next % c,min (c - next % c) (stop - next)⟩ :: cut c k (next+min (c - next % c) (stop - next)) stop else []from rfl];rw [if_pos (by omega),show min (c - next % c) (stop - next)= c - next % c by omega]
   rw [o,n,i];by_cases f:next+ (c - next % c) <stop;·
    by_cases b:stop % c≠0;· rw [if_pos ⟨f,b⟩,if_pos ⟨a,b⟩];refine (vJ _ ?_).symm;cases k with
     | zero=>omega
     | succ k=>unfold cut;rw [if_pos f];simp
    ·rw [if_neg (λh=>b h.2),if_neg (λh=>b h.2)];rfl
   ·have l:next+ (c - next % c)= stop:=by omega
    have g:stop % c= 0:=by rw [<-l];exact vK d (by omega)
    rw [if_neg (λh=>f h.1),if_neg (λh=>h.2 g)];rfl
theorem C0 (b:0<c) (a i:Nat):split c a (i+1)= if 0<i/\(a+i) % c≠0 then bump (split c a i) else split c a i ++ [⟨(a+i) / c,(a+i) % c,1⟩]:=by
 have h:=CZ b i a (a+i) (by omega) (by omega);unfold split;rw [show a+ (i+1)= a+i+1 by omega,h];by_cases e:0<i/\(a+i) % c≠0;· rw [if_pos ⟨by omega,e.2⟩,if_pos e]
 ·rw [if_neg (λh=>e ⟨by omega,h.2⟩),if_neg e]
theorem kM (c a n:Nat):(split c a n).length<=n:=CV c n a (a+n)
theorem rW (g:0<c):∀(k next stop:Nat),next<=stop->stop - next<=k->∀(i:Nat) (x:Pc),(cut c k next stop)[i]?= some x-> ∃at_,at_= next+ (((cut c k next stop).take i).map Pc.n).sum/\x.c= at_ / c/\x.f= at_ % c/\at_<stop/\x.n= min (c - at_ % c) (stop - at_)/\(0<i->at_ % c= 0):=by intro k;induction k with
 | zero=>intro next stop _ _ i x h;simp [cut]at h
 | succ k ih =>
 intro next stop h1 p i x h;have hm:=Tu next g;by_cases a:next<stop;·
  have l:cut c (k+1) next stop= ⟨next / c,next % c,min (c - next % c) (stop - next)⟩ :: cut c k (next+min (c - next % c) (stop - next)) stop:=by rw [show cut c (k+1) next stop= if next<stop then ⟨next / c,next % c,min (c - next % c) (stop - next)⟩ :: cut c k (next+min (c - next % c) (stop - next)) stop else []from rfl,if_pos a]
  rw [l]at h⊢;cases i with
   | zero => simp at h;subst h;exact ⟨next,by simp,rfl,rfl,a,rfl,λh=>by omega⟩
   | succ i =>
   have j:(cut c k (next+min (c - next % c) (stop - next)) stop)[i]?= some x:=by simpa using h
   obtain ⟨at_,e,a1,a2,a3,o,m⟩:=ih (next+min (c - next % c) (stop - next)) stop (by omega) (by omega) i x j;refine ⟨at_,by rw [e];simp;omega,a1,a2,a3,o,λ_=>?_⟩;by_cases hi:0<i;· exact m hi
   ·have d:i= 0:=by omega
    subst d;have e':at_= next+min (c - next % c) (stop - next):=by rw [e];simp
    have b:min (c - next % c) (stop - next)= c - next % c:=by omega
    rw [e',b];exact vK g (by omega)
 ·rw [show cut c (k+1) next stop= if next<stop then ⟨next / c,next % c,min (c - next % c) (stop - next)⟩ :: cut c k (next+min (c - next % c) (stop - next)) stop else []from rfl,if_neg a]at h;simp at h
theorem rX (b:0<c):∀(k next stop:Nat),next<=stop->stop - next<=k->next+ ((cut c k next stop).map Pc.n).sum= stop:=by intro k;induction k with
 | zero=>intro next stop h1 d;simp [cut];omega
 | succ k ih =>
 intro next stop h1 d;have hm:=Tu next b;by_cases a:next<stop;· unfold cut;rw [if_pos a];have:=ih (next+min (c - next % c) (stop - next)) stop (by omega) (by omega);simp;omega
 ·unfold cut;rw [if_neg a];simp;omega
def size (c n:Nat):Nat:=1+parts n 13+n*c
def room (c s:Nat):Nat:=(s - 1) / (1+13*c) *13+ ((s - 1) % (1+13*c) - 1) / c
theorem kN (n:Nat):parts n 13= (n+12) / 13:=by unfold parts;split<;>omega
theorem vL {a b:Nat} (h:a<=b):size c a<=size c b:=by unfold size;rw [kN,kN];have:=UH c h;omega
theorem C3 {a:Nat} (b:0<c):size c a<size c (a+1):=by unfold size;rw [kN,kN,TV];omega
theorem vM {s:Nat} (x:0<c):(0<room c s->size c (room c s)<=s)/\s<size c (room c s+1):=by
 obtain ⟨F,p⟩:=eX1 (1+13*c);obtain ⟨b,y⟩:=eX1 (s - 1);obtain ⟨q,n⟩:=eX1 (b / F);obtain ⟨r,f⟩:=eX1 (b % F);obtain ⟨t,m⟩:=eX1 ((r - 1) / c);have j:0<F:=by omega
 have g:=Uf b F;rw [<-n,<-f]at g;have w:r<F:=by rw [f];exact Tu _ j
 have a:=Uf (r - 1) c;rw [<-m]at a;have v:(r - 1) % c<c:=Tu _ x;have e:room c s= q*13+t:=by unfold room;rw [<-p,<-y,<-n,<-f,<-m]
 rw [e];have z:F*q= q+13* (c*q):=by rw [p,TV,Nat.one_mul,Nat.mul_assoc]
 have l:t<=13:=by
  rcases Nat.lt_or_ge 13 t with h|h;· have:c*14<=c*t:=Wh c h;omega
  ·exact h
 have d:t= 13->r - 1= 13*c:=by intro h;rw [h]at a;omega
 have u:(q*13+t) *c= 13* (c*q) +c*t:=by rw [TV,SH t c,Nat.mul_right_comm,SH q c,SH]
 have A:(q*13+t+1) *c= 13* (c*q) +c*t+c:=by rw [TV,u,Nat.one_mul]
 have i:t= 0->c*t= 0:=λh=>by rw [h,TW]
 constructor;·
  intro o;unfold size;rw [kN,u];rcases VO t with k|k;· have:=i k;omega
  ·have h1:c*1<=c*t:=Wh c k;omega
 ·unfold size;rw [kN,A];omega
theorem C5 {s n:Nat} (d:0<c) (h1:0<n->size c n<=s) (e:s<size c (n+1)):room c s= n:=by
 obtain ⟨a1,a2⟩:=vM (c:=c) (s:=s) d;rcases Nat.lt_trichotomy (room c s) n with h|h|h;· have:=h1 (by omega);have:=vL (c:=c) (a:=room c s+1) (b:=n) h;omega
 ·exact h
 ·have:=a1 (by omega);have:=vL (c:=c) (a:=n+1) (b:=room c s) h;omega
theorem C6 {n:Nat} (hc:0<c):room c (size c n)= n:=C5 hc (λ_=>nm _) (C3 hc)
end Em
end
section
namespace Om
def B (l:zL):ByteArray:=⟨l.toArray⟩
def L (s:ByteArray):zL:=s.data.toList
theorem fx (l:zL):L (B l)= l:=by simp [L,B]
theorem vP (s:ByteArray):B (L s)= s:=by cases s;simp [L,B]
theorem aG (l:zL):(B l).size= l.length:=rfl
theorem vQ (s:ByteArray):(L s).length= s.size:=rfl
theorem fy (a b:zL):B a ++ B b= B (a ++ b):=by apply VP;simp [B]
theorem j_ (s:ByteArray) (k:Nat):s.extract k s.size= B ((L s).drop k):=by apply VP;rw [Wk];apply Array.ext';rw [Wo,Wp];show (s.data.toList.drop k).take (s.size - k)= s.data.toList.drop k;apply OP;rw [IV];exact nm _
theorem pj (s:ByteArray) (k:Nat):s.extract 0 k= B ((L s).take k):=by apply VP;rw [Wk];apply Array.ext';rw [Wo,Wp];rfl
def nk (z:Int):Bool:=decide (0<=z/\z<=8)
theorem vR (z:Int):nk z= true↔0<=z/\z<=8:=by simp [nk]
def eB (zs:zN):Bool:=zs.all nk
def fits (n k:Nat):Bool:=decide (n<256 ^ k)
def low (n k:Nat):zL:=(MR k).map λi=>Vy (n / 256 ^ i)
theorem g_ (n k:Nat):(low n k).length= k:=by simp [low]
theorem Df (n k:Nat):low n (k+1)= low n k ++ [Vy (n / 256 ^ k)]:=by simp [low,TO]
theorem vS (n k:Nat):low n (k+1)= Vy n :: low (n / 256) k:=by unfold low;rw [Wq];simp only [UJ,VQ,Nat.pow_zero,Nat.div_one];congr 1;apply Ua;intro i _;simp only [Wt,Wu];rw [Nat.pow_succ',Nat.div_div_eq_div_mul]
def num:zL->Nat
 | []=>0
 | b :: r=>b.toNat+256*num r
theorem nr (l:zL):num l<256 ^ l.length:=by induction l with
 | nil=>simp [num]
 | cons b r ih => have:=b.toNat_lt;simp only [num,Tl,Nat.pow_succ];omega
theorem Dg (a b:zL):num (a ++ b)= num a+256 ^ a.length*num b:=by induction a with
 | nil=>simp [num]
 | cons c r ih => simp only [TN,num,ih,Tl,Nat.pow_succ];rw [Nat.mul_add,<-Nat.mul_assoc,SH 256 (256 ^ r.length)];omega
theorem Dh (a:zL) (b:UInt8):num (a ++ [b])= num a+256 ^ a.length*b.toNat:=by rw [Dg];simp [num]
theorem Di (n k:Nat):num (low n k)= n % 256 ^ k:=by induction k generalizing n with
 | zero=>simp [low,num,Nat.mod_one]
 | succ k ih => rw [vS,num,ih,Nat.pow_succ',Nat.mod_mul];simp
theorem Dj (l:zL):low (num l) l.length= l:=by induction l with
 | nil=>rfl
 | cons b r ih =>
 rw [Tl,vS,num];have e:(b.toNat+256*num r) / 256= num r:=by have:=b.toNat_lt;omega
 rw [e,ih];congr 1;apply UInt8.toNat_inj.1;rw [UInt8.toNat_ofNat'];have:=b.toNat_lt;omega
def off (zs:zN) (k:Nat):Nat:=((zs.take k).map Int.toNat).sum
theorem vT (zs:zN):off zs 0= 0:=by simp [off]
theorem nt (zs:zN) (k:Nat) (h:k<zs.length):off zs (k+1)= off zs k+ (zs.getD k 0).toNat:=by unfold off;rw [List.take_succ_eq_append_getElem h,List.map_append,List.sum_append];simp [C1 h]
theorem Dl (zs:zN) (j k:Nat) (h:j<=k):off zs j<=off zs k:=by induction k with
 | zero =>
 have : j = 0 := by omega
 subst this;exact nm _
 | succ k ih =>
 by_cases a:j= k+1;· subst a;exact nm _
 ·have:=ih (by omega);by_cases hk:k<zs.length;· rw [nt zs k hk];omega
  ·have e:off zs (k+1)= off zs k:=by unfold off;rw [OP (show zs.length<=k+1 by omega),OP (show zs.length<=k by omega)]
   omega
def ct (zs:zN) (ls:List Nat) (k:Nat):zL:=(MR k).flatMap λi=>low (ls.getD i 0) (zs.getD i 0).toNat
theorem nu (zs:zN) (ls:List Nat) (k:Nat):ct zs ls (k+1)= ct zs ls k ++ low (ls.getD k 0) (zs.getD k 0).toNat:=by simp [ct,TO]
theorem kb (zs:zN) (ls:List Nat) (k:Nat) (h:k<=zs.length):(ct zs ls k).length= off zs k:=by induction k with
 | zero=>simp [ct,off]
 | succ k ih=>rw [nu,DC,ih (by omega),g_,nt zs k (by omega)]
def gK (zs:zN) (ls:List Nat) (k:Nat):Bool:=(MR k).all λi=>fits (ls.getD i 0) (zs.getD i 0).toNat
theorem kQ (zs:zN) (ls:List Nat) (k:Nat):gK zs ls k= true↔∀i,i<k->ls.getD i 0<256 ^ (zs.getD i 0).toNat:=by simp [gK,fits]
theorem lQ (zs:zN) (h:eB zs) (i:Nat):0<=zs.getD i 0/\zs.getD i 0<=8:=by
 by_cases hi:i<zs.length;· have:=List.all_eq_true.1 h (zs[i]) (SR hi);rw [vR]at this;simpa [C1 hi] using this
 ·simp [List.getElem?_eq_none (show zs.length<=i by omega)]
theorem Dn (zs:zN) (h:eB zs) (k:Nat):off zs k<=8*k:=by induction k with
 | zero=>simp [off]
 | succ k ih =>
 by_cases hk:k<zs.length;· have:=lQ zs h k;rw [nt zs k hk];omega
 ·have e:off zs (k+1)= off zs k:=by unfold off;rw [OP (show zs.length<=k+1 by omega),OP (show zs.length<=k by omega)]
  omega
def at_ (s:zL) (zs:zN) (i:Nat):Nat:=num ((s.drop (off zs i)).take (zs.getD i 0).toNat)
theorem vU (zs:zN) (ls:List Nat) (n:Nat) (t:zL) (f:n<=zs.length) (d:gK zs ls n) (i:Nat) (hi:i<n):at_ (ct zs ls n ++ t) zs i= ls.getD i 0:=by
 have a:∀m,i<m->m<=n->∃u,ct zs ls m= ct zs ls i ++ (low (ls.getD i 0) (zs.getD i 0).toNat ++ u):=by intro m c b;induction m with
  | zero=>omega
  | succ m ih =>
  by_cases e:i= m;· subst e;exact ⟨[],by rw [nu];simp⟩
  ·obtain ⟨u,hu⟩:=ih (by omega) (by omega);exact ⟨u ++ low (ls.getD m 0) (zs.getD m 0).toNat,by rw [nu,hu];simp [NR]⟩
 obtain ⟨u,hu⟩:=a n hi (nm _);unfold at_;rw [hu,<-kb zs ls i (by omega),NR,Uo,NR,Uq (by rw [g_];exact nm _)];rw [OP (by rw [g_];exact nm _),Di,U_ ((kQ zs ls n).1 d i hi)]
theorem Dq (zs:zN) (ls:List Nat) (n:Nat) (t:zL) (a:n<=zs.length):(ct zs ls n ++ t).drop (off zs n)= t:=by rw [<-kb zs ls n a,Uo]
theorem vV (s:zL) (zs:zN) (ms:List Nat) (n:Nat) (d:n<=zs.length) (c:off zs n<=s.length) (hm:∀i,i<n->ms.getD i 0= at_ s zs i):ct zs ms n= s.take (off zs n):=by induction n with
 | zero=>simp [ct,off]
 | succ k ih =>
 have hk:k<zs.length:=by omega
 have a:=nt zs k hk;rw [nu,ih (by omega) (by omega) (λi hi=>hm i (by omega)),hm k (by omega)];have b:((s.drop (off zs k)).take (zs.getD k 0).toNat).length= (zs.getD k 0).toNat:=by rw [E4,IV];omega
 have e:low (at_ s zs k) (zs.getD k 0).toNat= (s.drop (off zs k)).take (zs.getD k 0).toNat:=by have h:=Dj ((s.drop (off zs k)).take (zs.getD k 0).toNat);rw [b]at h;exact h
 rw [e,a,List.take_add]
def sh (n k:Nat):Nat:=n / 256 ^ k
theorem rY (n k:Nat):(n:Int) / 2 ^ (8*k)= (sh n k:Int):=by
 unfold sh;rw [Int.natCast_ediv];have:(256:Nat) ^ k= 2 ^ (8*k):=by rw [Nat.pow_mul]
 rw [this];simp
theorem Dr (n k:Nat) (h:n<256 ^ k):sh n k= 0:=Nat.div_eq_of_lt h
theorem Ds (n k:Nat) (h:¬n<256 ^ k):0<sh n k:=Nat.div_pos (by omega) (Nat.pow_pos (by omega))
end Om
end
section
namespace Dm
structure St where
 S:List (List UInt8)
 P:List (Nat×List UInt8)
 bj:Int
 dead:Bool
def last (P:List (Nat×List UInt8)) (k:Nat) (d:zL):zL:=P.foldl (λs x=>if x.1= k then x.2 else s) d
def one (st:St) (k:Nat):zL:=last st.P k (st.S.getD k [])
def dn (st:St) (a n:Int):Bool:=decide (0<=a/\0<=n/\n<=(st.S.length:Int) - a)
def span (st:St) (a n:Nat):zL:=((MR n).map λi=>one st (a+i)).flatten
def aY (st:St) (a n:Int):Int:=if st.dead then 41 else if dn st a n then 0 else 2
def aA (st:St) (a n:Int):zL:=if st.dead then []else if dn st a n then span st a.toNat n.toNat else []
def bw (st:St):St:= if st.bj= 0 then {st with dead:=true} else if st.dead then st else {st with bj:=if 0<st.bj then st.bj - 1 else st.bj}
def cR (st:St):Bool:= !(decide (st.bj= 0)) && !st.dead
def put (st:St) (k:Nat) (d:zL):St:={st with P:=st.P ++ [(k,d)]}
def bJ:St->Nat->List (List UInt8)->St×Int
 | st,_, []=>(st,0)
 | st,k,c :: cs=>if cR st then bJ (put (bw st) k c) (k+1) cs else (bw st,41)
def chunks (l:zL):List (List UInt8):=(MR (l.length / 64)).map λi=>(l.drop (64*i)).take 64
def write (st:St) (a:Int) (l:zL):St×Int:= if st.dead then (st,41) else if l.length % 64= 0 then (if dn st a (l.length / 64:Nat) then bJ st a.toNat (chunks l) else (st,2)) else (st,1)
def settle:List (List UInt8)->List (Nat×List UInt8)->List Bool->List (List UInt8)
 | S, [],_=>S
 | S,x :: P,keep=>settle (if keep.headD false then S.set x.1 x.2 else S) P keep.tail
def all (P:List (Nat×List UInt8)):List Bool:=P.map λ_=>true
def flush (st:St):St×Int:= if cR st then (⟨settle st.S st.P (all st.P), [],(bw st).bj,(bw st).dead⟩,0) else (bw st,41)
def pk (st:St) (keep:List Bool):St:=⟨settle st.S st.P keep, [], -1,false⟩
def fail (st:St) (n:Int):St:={st with bj:=max n (-1)}
def pad (l:zL):zL:=l ++ vw ((64 - l.length % 64) % 64) 0
def load (l:zL):St:=⟨chunks (pad l), [], -1,false⟩
def fresh (n:Nat):St:=⟨vw n (vw 64 0), [], -1,false⟩
structure Ok (st:St):Prop where
 fA:∀x∈st.S,x.length= 64
 writes:∀x∈st.P,x.1<st.S.length/\x.2.length= 64
 bj: -1<=st.bj
 aS:st.S.length<=1048576
variable{S:List (List UInt8)}
theorem ix (h:∀x∈S,x.length= 64):S.flatten.length= 64*S.length:=by induction S with
 | nil=>rfl
 | cons a S ih => rw [Vc,DC,ih (λx hx=>h x (SC _ hx)),h a SD];simp;omega
theorem Dt (h:∀x∈S,x.length= 64) (k:Nat) (hk:k<S.length) (d:zL): (S.set k d).flatten= S.flatten.take (64*k) ++ d ++ S.flatten.drop (64*k+64):=by induction S generalizing k with
 | nil=>simp at hk
 | cons a S ih => have f:=h a SD;cases k with
 | zero => simp only [List.set_cons_zero,Vc,TW,List.take_zero,TJ,Nat.zero_add];rw [List.drop_append_of_le_length (by omega),Ut (by omega),TJ]
 | succ k =>
 have:=ih (λx hx=>h x (SC _ hx)) k (by simpa using hk);simp only [List.set_cons_succ,Vc,this];have e:64* (k+1)= a.length+64*k:=by omega
 rw [e,List.take_append,List.drop_append];have c:a.take (a.length+64*k)= a:=OP (by omega);have b:a.drop (a.length+64*k+64)= []:=Ut (by omega);rw [c,b];simp only [NR,TJ];congr 4;· omega
 ·congr 1;omega
theorem lR (h:∀x∈S,x.length= 64) (k:Nat) (hk:k<S.length):(S.flatten.drop (64*k)).take 64= S.getD k []:=by induction S generalizing k with
 | nil=>simp at hk
 | cons a S ih => have b:=h a SD;cases k with
 | zero => simp only [Vc,TW,TA,Xz];rw [Uq (by omega),OP (by omega)]
 | succ k => have:=ih (λx hx=>h x (SC _ hx)) k (by simpa using hk);simp only [Vc,XA];rw [show 64* (k+1)= a.length+64*k by omega,<-Uu,Uo,this]
theorem iV (l:zL):(chunks l).length= l.length / 64:=by simp [chunks]
theorem rZ (l:zL) (i:Nat) (h:i<l.length / 64):(chunks l).getD i []= (l.drop (64*i)).take 64:=by simp [chunks,h]
theorem vW (l:zL):∀x∈chunks l,x.length= 64:=by intro x a;simp only [chunks,List.mem_map,RP]at a;obtain ⟨i,hi,rfl⟩:=a;rw [E4,IV];omega
theorem Du (l:zL) (h:64<=l.length):chunks l= l.take 64 :: chunks (l.drop 64):=by
 unfold chunks;have e:l.length / 64= (l.drop 64).length / 64+1:=by rw [IV];omega
 rw [e,Wq];simp only [UJ,VQ,TW,TA];congr 1;apply Ua;intro i _;simp only [Wt,Wu,Uu];congr 2;omega
theorem Dv (n:Nat):∀l:zL,l.length= 64*n->(chunks l).flatten= l:=by induction n with
 | zero=>intro l h;simp [chunks,h];exact List.eq_nil_of_length_eq_zero (by omega)
 | succ n ih => intro l h;rw [Du l (by omega),Vc,ih (l.drop 64) (by rw [IV];omega),T8]
theorem vX (l:zL):(pad l).length= l.length+ (64 - l.length % 64) % 64:=by simp [pad]
theorem Dw (l:zL):(pad l).length= 64* ((pad l).length / 64):=by rw [vX];omega
theorem r_ (l:zL):(load l).S.flatten= pad l:=Dv _ _ (Dw l)
theorem vY (l:zL):(load l).S.length= (l.length+63) / 64:=by show (chunks (pad l)).length= _;rw [iV,vX];omega
theorem lS (l:zL) (h:(l.length+63) / 64<=1048576):Ok (load l):= ⟨vW _,(λx hx=>by cases hx),T9 _,by rw [vY];exact h⟩
theorem Dy (n:Nat) (h:n<=1048576):Ok (fresh n):= ⟨λx hx=>by rw [(List.mem_replicate.1 hx).2];simp,(λx hx=>by cases hx),T9 _,by simp [fresh,h]⟩
theorem sd (n:Nat):(fresh n).S.flatten= vw (64*n) 0:=by show (vw n (vw 64 (0:UInt8))).flatten= _;rw [List.flatten_replicate_replicate,SH]
theorem fB (st:St):(bw st).S= st.S:=by unfold bw;split<;>(try split)<;>rfl
theorem h_ (st:St):(bw st).P= st.P:=by unfold bw;split<;>(try split)<;>rfl
variable{st:St}
theorem pn (h:Ok st):Ok (bw st):=by
 refine ⟨by rw [fB];exact h.fA,by rw [fB,h_];exact h.writes,?_,by rw [fB];exact h.aS⟩;have:=h.bj;unfold bw;split;· exact this
 ·split;· exact this
  ·show -1<=(if 0<st.bj then st.bj - 1 else st.bj);split<;>omega
theorem lT (h:Ok st) (k:Nat) (d:zL) (hk:k<st.S.length) (hd:d.length= 64):Ok (put st k d):=by
 refine ⟨h.fA,λx a=>?_,h.bj,h.aS⟩;rcases RR.1 a with a|a;· exact h.writes x a
 ·rw [H5.1 a];exact ⟨hk,hd⟩
theorem lU (S:List (List UInt8)) (P:List (Nat×List UInt8)) (keep:List Bool):(settle S P keep).length= S.length:=by induction P generalizing S keep with
 | nil=>rfl
 | cons x P ih => unfold settle;rw [ih];split<;>simp
variable{P:List (Nat×List UInt8)}
theorem Dz (keep:List Bool) (b:∀x∈S,x.length= 64) (c:∀x∈P,x.2.length= 64):∀x∈settle S P keep,x.length= 64:=by induction P generalizing S keep with
 | nil=>exact b
 | cons y P ih =>
 unfold settle;refine ih _ ?_ (λx a=>c x (SC _ a));split;·
  intro x a;rcases List.mem_or_eq_of_mem_set a with h|h;· exact b x h
  ·rw [h];exact c y SD
 ·exact b
theorem DA (h:Ok st) (keep:List Bool) (f:Int) (d:Bool) (a: -1<=f):Ok ⟨settle st.S st.P keep, [],f,d⟩:= ⟨Dz keep h.fA (λx hx=>(h.writes x hx).2),(λx hx=>by cases hx),a,by rw [lU];exact h.aS⟩
theorem DB (h:Ok st):Ok (flush st).1:=by
 unfold flush;split;· exact DA h _ _ _ (pn h).bj
 ·exact pn h
theorem DF (h:Ok st) (n:Int):Ok (fail st n):=⟨h.fA,h.writes,by show -1<=max n (-1);omega,h.aS⟩
theorem DG (h:Ok st) (k:Nat) (cs:List (List UInt8)) (hk:k+cs.length<=st.S.length) (a:∀x∈cs,x.length= 64):Ok (bJ st k cs).1/\(bJ st k cs).1.S= st.S/\(bJ st k cs).1.P.length<=st.P.length+cs.length:=by induction cs generalizing st k with
 | nil=>exact ⟨h,rfl,by simp [bJ]⟩
 | cons c cs ih =>
 unfold bJ;split;·
  have h1:=lT (pn h) k c (by rw [fB];simp at hk;omega) (a c SD);have b:(put (bw st) k c).S= st.S:=fB st;have d:(put (bw st) k c).P.length= st.P.length+1:=by show ((bw st).P ++ [(k,c)]).length= _;rw [h_];simp
  obtain ⟨a1,a2,a3⟩:=ih h1 (k+1) (by rw [b];simp at hk;omega) (λx hx=>a x (SC _ hx));exact ⟨a1,a2.trans b,by rw [d]at a3;simp;omega⟩
 ·exact ⟨pn h,fB st,by rw [h_];omega⟩
theorem fb (st:St) (a n:Int):dn st a n= true↔0<=a/\0<=n/\n<=(st.S.length:Int) - a:=by simp [dn]
theorem lV (h:Ok st) (a:Int) (l:zL):Ok (write st a l).1/\(write st a l).1.S= st.S/\(write st a l).1.P.length<=st.P.length+l.length / 64:=by
 unfold write;split;· exact ⟨h,rfl,UL _ _⟩
 ·split;·
   split;· rename_i b;obtain ⟨h1,d,c⟩:=(fb _ _ _).1 b;have:=DG h a.toNat (chunks l) (by rw [iV];omega) (vW l);rw [iV]at this;exact this
   ·exact ⟨h,rfl,UL _ _⟩
  ·exact ⟨h,rfl,UL _ _⟩
theorem sg (P:List (Nat×List UInt8)) (k j:Nat) (d e:zL):last (P ++ [(j,e)]) k d= if j= k then e else last P k d:=by simp [last]
theorem DH (a:∀x∈P,x.2.length= 64) (k:Nat) (d:zL) (hd:d.length= 64):(last P k d).length= 64:=by unfold last;induction P generalizing d with
 | nil=>exact hd
 | cons x P ih =>
 simp only [Wv];refine ih (λy hy=>a y (SC _ hy)) _ ?_;split;· exact a x SD
 ·exact hd
variable{k:Nat}
theorem DI (h:∀x∈P,x.1≠k) (d:zL):last P k d= d:=by unfold last;induction P generalizing d with
 | nil=>rfl
 | cons x P ih => simp only [Wv];rw [if_neg (h x SD)];exact ih (λy hy=>h y (SC _ hy)) d
theorem vZ (h:k<S.length):S.getD k []∈S:=by rw [FU,C1 h];exact SR h
theorem si (h:Ok st) (k:Nat) (hk:k<st.S.length):(one st k).length= 64:= DH (λx hx=>(h.writes x hx).2) k _ (h.fA _ (vZ hk))
theorem sj (st:St) (a n:Nat):span st a (n+1)= span st a n ++ one st (a+n):=by simp [span,TO]
theorem po (h:Ok st) (a n:Nat) (b:a+n<=st.S.length):(span st a n).length= 64*n:=by induction n with
 | zero=>rfl
 | succ n ih=>rw [sj,DC,ih (by omega),si h _ (by omega)];omega
theorem v_ {j:Nat} (_hj:j<S.length) (d:zL):(S.set j d).getD k []= if j= k then d else S.getD k []:=by
 simp only [FU,P4];split;· subst_vars;simp
 ·rfl
theorem DJ (h:∀x∈P,x.1<S.length) (k:Nat):(settle S P (all P)).getD k []= last P k (S.getD k []):=by induction P generalizing S with
 | nil=>rfl
 | cons x P ih => show (settle (S.set x.1 x.2) P (all P)).getD k []= last P k (if x.1= k then x.2 else S.getD k []);rw [ih (λy hy=>by rw [TB];exact h y (SC _ hy)),v_ (h x SD)]
theorem DL (keep:List Bool) (h:∀x∈P,x.1<S.length) (k:Nat): (settle S P keep).getD k []= S.getD k []\/∃x∈P,x= (k,(settle S P keep).getD k []):=by induction P generalizing S keep with
 | nil=>exact .inl rfl
 | cons x P ih =>
 unfold settle;split;·
  rcases ih keep.tail (S:=S.set x.1 x.2) (λy a=>by rw [TB];exact h y (SC _ a)) with e|⟨y,a,b⟩;·
   rw [v_ (h x SD)]at e;by_cases hk:x.1= k;· rw [if_pos hk]at e;exact .inr ⟨x,SD,by rw [e,<-hk]⟩
   ·rw [if_neg hk]at e;exact .inl e
  ·exact .inr ⟨y,SC _ a,b⟩
 ·rcases ih keep.tail (S:=S) (λy a=>h y (SC _ a)) with e|⟨y,a,b⟩;· exact .inl e
  ·exact .inr ⟨y,SC _ a,b⟩
def news (a:Nat) (cs:List (List UInt8)) (f:Nat):List (Nat×List UInt8):=(MR f).map λj=>(a+j,cs.getD j [])
theorem DM (a:Nat) (c:zL) (cs:List (List UInt8)) (f:Nat):news a (c :: cs) (f+1)= (a,c) :: news (a+1) cs f:=by unfold news;rw [Wq];simp only [UJ,VQ,Nat.add_zero,Xz];congr 1;apply Ua;intro j _;simp only [Wt,Wu,XA];congr 1;omega
theorem DO (st:St) (a:Nat) (cs:List (List UInt8)):∃f,f<=cs.length/\(bJ st a cs).1.P= st.P ++ news a cs f:=by induction cs generalizing st a with
 | nil=>exact ⟨0,nm _,by simp [bJ,news]⟩
 | cons c cs ih =>
 unfold bJ;split;· obtain ⟨f,d,b⟩:=ih (put (bw st) a c) (a+1);refine ⟨f+1,by simp;omega,?_⟩;rw [b,DM];show ((bw st).P ++ [(a,c)]) ++ _= _;rw [h_,NR];rfl
 ·exact ⟨0,Nat.zero_le _,by rw [h_];simp [news]⟩
theorem DP (st:St) (a:Int) (l:zL):∃f,(write st a l).1.P= st.P ++ news a.toNat (chunks l) f/\(0<f->0<=a/\f<=l.length / 64/\a.toNat+l.length / 64<=st.S.length):=by
 unfold write;split;· exact ⟨0,by simp [news],λh=>absurd h (by omega)⟩
 ·split;·
   split;· rename_i c;obtain ⟨h1,g,e⟩:=(fb _ _ _).1 c;obtain ⟨f,b,d⟩:=DO st a.toNat (chunks l);rw [iV]at b;exact ⟨f,d,λ_=>⟨h1,b,by omega⟩⟩
   ·exact ⟨0,by simp [news],λh=>absurd h (by omega)⟩
  ·exact ⟨0,by simp [news],λh=>absurd h (by omega)⟩
end Dm
end
section
namespace So
inductive Op where
 | wr (k:Nat) (d:zL)
 | fl
def step (st:Dm.St):Op->Dm.St×Int
 | .wr k d=>Dm.write st (k:Int) d
 | .fl=>Dm.flush st
def aa:Dm.St->List Op->Dm.St×Int
 | st, []=>(st,0)
 | st,o :: r=>if (step st o).2= 0 then aa (step st o).1 r else step st o
theorem we (st:Dm.St):aa st []= (st,0):=rfl
variable{st:Dm.St}
theorem gq {o:Op} (r:List Op) (h:(step st o).2= 0):aa st (o :: r)= aa (step st o).1 r:=by rw [aa,if_pos h]
theorem iy {o:Op} (r:List Op) (h:(step st o).2≠0):aa st (o :: r)= step st o:=by rw [aa,if_neg h]
theorem kd (st:Dm.St) (o:Op):aa st [o]= ((step st o).1,(step st o).2):=by
 by_cases h:(step st o).2= 0;· rw [gq _ h,we,h]
 ·rw [iy _ h]
variable{a:List Op}
theorem ia (b:List Op) (h:(aa st a).2= 0):aa st (a ++ b)= aa (aa st a).1 b:=by induction a generalizing st with
 | nil=>rfl
 | cons o a ih =>
 by_cases c:(step st o).2= 0;· rw [gq _ c]at h;rw [TN,gq _ c,gq _ c,ih h]
 ·rw [iy _ c]at h;exact absurd h c
theorem ke (b:List Op) (h:(aa st a).2≠0):aa st (a ++ b)= aa st a:=by induction a generalizing st with
 | nil=>exact absurd rfl h
 | cons o a ih =>
 by_cases c:(step st o).2= 0;· rw [gq _ c]at h;rw [TN,gq _ c,gq _ c,ih h]
 ·rw [TN,iy _ c,iy _ c]
def dR (f:Nat->List UInt8) (k:Nat) (d:zL) (x:Nat):zL:=if k<=x/\x<k+d.length / 64 then (d.drop (64* (x - k))).take 64 else f x
def eH:(Nat->List UInt8)->List Op->Nat->List UInt8
 | f, []=>f
 | f, .wr k d :: r=>eH (dR f k d) r
 | f, .fl :: r=>eH f r
def Wr (W:List Op) (x:Nat) (d:zL):Prop:=∃k c,Op.wr k c∈W/\k<=x/\x<k+c.length / 64/\d= (c.drop (64* (x - k))).take 64
variable{W:List Op}{x:Nat}
theorem Wr.mono {V:List Op} {d:zL} (h:Wr V x d) (a:∀o∈V,o∈W):Wr W x d:=by obtain ⟨k,c,hm,r⟩:=h;exact ⟨k,c,a _ hm,r⟩
theorem fR (f:Nat->List UInt8) (h:∀d,¬Wr W x d):eH f W x= f x:=by induction W generalizing f with
 | nil=>rfl
 | cons o W ih => have a:∀d,¬Wr W x d:=λd hd=>h d (hd.mono λo ho=>SC _ ho);cases o with
 | fl=>exact ih f a
 | wr k c =>
 show eH (dR f k c) W x= f x;rw [ih _ a];unfold dR;split;· rename_i hk;exact absurd ⟨k,c,SD,hk.1,hk.2,rfl⟩ (h ((c.drop (64* (x - k))).take 64))
 ·rfl
theorem iW (f:Nat->List UInt8) {v:zL} (h:Wr W x v) (hu:∀d,Wr W x d->d= v):eH f W x= v:=by
 have key:∀(W:List Op) (f:Nat->List UInt8),(∀d,Wr W x d->d= v)->(f x= v\/∃d,Wr W x d)->eH f W x= v:=by intro W;induction W with
  | nil =>
  intro f _ h;rcases h with h|⟨d,k,c,hm,_⟩;· exact h
  ·cases hm
  | cons o W ih => intro f hu h;have a:∀d,Wr W x d->d= v:=λd hd=>hu d (hd.mono λo ho=>SC _ ho);cases o with
  | fl =>
  refine ih f a (h.imp id ?_);rintro ⟨d,k,c,hm,r⟩;rcases List.mem_cons.1 hm with hm|hm;· cases hm
  ·exact ⟨d,k,c,hm,r⟩
  | wr k c =>
  refine ih (dR f k c) a ?_;by_cases hk:k<=x/\x<k+c.length / 64;· left;unfold dR;rw [if_pos hk];exact hu _ ⟨k,c,SD,hk.1,hk.2,rfl⟩
  ·rcases h with h|⟨d,e,g,hm,h1,b,r⟩;· left;unfold dR;rw [if_neg hk];exact h
   ·rcases List.mem_cons.1 hm with hm|hm;· injection hm with e1 e2;subst e1;subst e2;exact absurd ⟨h1,b⟩ hk
    ·exact .inr ⟨d,e,g,hm,h1,b,r⟩
 exact key W f hu (.inr ⟨v,h⟩)
theorem DQ (st:Dm.St) (x:Nat):Dm.one (Dm.bw st) x= Dm.one st x:=by unfold Dm.one;rw [Dm.fB,Dm.h_]
theorem DS (st:Dm.St) (k x:Nat) (c:zL):Dm.one (Dm.put st k c) x= if k= x then c else Dm.one st x:=by show Dm.last (st.P ++ [(k,c)]) x (st.S.getD x [])= _;rw [Dm.sg];rfl
theorem DT {cs:List (List UInt8)} {k:Nat} (h:(Dm.bJ st k cs).2= 0) (x:Nat): Dm.one (Dm.bJ st k cs).1 x= if k<=x/\x<k+cs.length then cs.getD (x - k) []else Dm.one st x:=by induction cs generalizing st k with
 | nil=>rw [if_neg (by simp)];rfl
 | cons c cs ih => unfold Dm.bJ at h⊢;cases hb:Dm.cR st with
 | false=>rw [hb]at h;simp at h
 | true =>
 rw [hb]at h;simp only [if_true]at h⊢;rw [ih h,DS,DQ];simp only [Tl];by_cases e:k= x;· subst e;rw [if_neg (by omega),if_pos rfl,if_pos (by omega),Nat.sub_self];rfl
 ·by_cases a:k+1<=x/\x<k+1+cs.length;· rw [if_pos a,if_pos (by omega),show x - k= (x - (k+1)) +1 by omega];rfl
  ·rw [if_neg a,if_neg e,if_neg (by omega)]
theorem wg (a:Dm.Ok st) {o:Op} (h:(step st o).2= 0) (x:Nat):Dm.one (step st o).1 x= eH (Dm.one st) [o] x:=by
  cases o with
  | fl =>
    show Dm.one (Dm.flush st).1 x= Dm.one st x
    have h:(Dm.flush st).2= 0:=h
    unfold Dm.flush at h⊢
    cases hb:Dm.cR st with
    | false=>rw [hb]at h;simp at h
    | true=>exact Dm.DJ (fun y hy=>(a.writes y hy).1) x
  | wr k d =>
    show Dm.one (Dm.write st (k:Int) d).1 x= dR (Dm.one st) k d x
    have h:(Dm.write st (k:Int) d).2= 0:=h
    unfold Dm.write at h⊢
    split at h
    · simp at h
    · rename_i h1
      split at h
      · rename_i c
        split at h
        · rename_i b
          rw [if_neg h1,if_pos c,if_pos b]
          rw [GH]at h⊢
          rw [DT h,Dm.iV]
          unfold dR
          split
          · rename_i e
            rw [Dm.rZ _ _ (by omega)]
          · rfl
        · simp at h
      · simp at h
theorem step_ok (h:Dm.Ok st) (o:Op):Dm.Ok (step st o).1/\(step st o).1.S.length= st.S.length:=by cases o with
 | fl =>
 refine ⟨Dm.DB h,?_⟩;show (Dm.flush st).1.S.length= _;unfold Dm.flush;split;· exact Dm.lU _ _ _
 ·rw [Dm.fB]
 | wr k d => have:=Dm.lV h (k:Int) d;exact ⟨this.1,by show (Dm.write st (k:Int) d).1.S.length= _;rw [this.2.1]⟩
theorem gL (h:Dm.Ok st) (ops:List Op):Dm.Ok (aa st ops).1/\(aa st ops).1.S.length= st.S.length:=by induction ops generalizing st with
 | nil=>exact ⟨h,rfl⟩
 | cons o r ih =>
 have h1:=step_ok h o;by_cases a:(step st o).2= 0;· rw [gq _ a];have:=ih h1.1;exact ⟨this.1,this.2.trans h1.2⟩
 ·rw [iy _ a];exact h1
variable{ops:List Op}
theorem lW (b:Dm.Ok st) (h:(aa st ops).2= 0) (x:Nat):Dm.one (aa st ops).1 x= eH (Dm.one st) ops x:=by
 have a:∀(W:List Op) (f g:Nat->List UInt8),(∀y,f y= g y)->∀y,eH f W y= eH g W y:=λW f g hfg y=>by have:=funext hfg;rw [this]
 induction ops generalizing st with
  | nil=>rfl
  | cons o r ih =>
  by_cases c:(step st o).2= 0;· rw [gq _ c]at h⊢;rw [ih (step_ok b o).1 h];have d:=wg b c;rw [a r _ _ d];cases o<;>rfl
  ·rw [iy _ c]at h;exact absurd h c
structure gu (st:Dm.St):Prop where
 bj:st.bj= -1
 dead:st.dead= false
theorem gu.kR (h:gu st):Dm.cR st= true/\Dm.bw st= st:=by obtain ⟨h1,a⟩:=h;refine ⟨by unfold Dm.cR;rw [h1,a];rfl,?_⟩;unfold Dm.bw;rw [if_neg (by omega),if_neg (by rw [a];decide),if_neg (by omega)]
def Good (n:Nat):Op->Prop
 | .wr k d=>d.length % 64= 0/\k+d.length / 64<=n
 | .fl=>True
theorem DU (h:gu st) (k:Nat) (cs:List (List UInt8)):(Dm.bJ st k cs).2= 0/\gu (Dm.bJ st k cs).1:=by induction cs generalizing st k with
 | nil=>exact ⟨rfl,h⟩
 | cons c cs ih => unfold Dm.bJ;rw [if_pos h.kR.1,h.kR.2];exact ih (st:=Dm.put st k c) ⟨h.bj,h.dead⟩ _
theorem wh (h:gu st) {o:Op} (a:Good st.S.length o):(step st o).2= 0/\gu (step st o).1:=by cases o with
 | fl => show (Dm.flush st).2= 0/\gu (Dm.flush st).1;unfold Dm.flush;rw [if_pos h.kR.1,h.kR.2];exact ⟨rfl,h.bj,h.dead⟩
 | wr k d => show (Dm.write st (k:Int) d).2= 0/\gu (Dm.write st (k:Int) d).1;unfold Dm.write;obtain ⟨h1,b⟩:d.length % 64= 0/\k+d.length / 64<=st.S.length:=a;rw [if_neg (by rw [h.dead];decide),if_pos h1,if_pos (by rw [Dm.fb];omega)];exact DU h _ _
theorem kf (a:Dm.Ok st) (h:gu st) (b:∀o∈ops,Good st.S.length o):(aa st ops).2= 0/\gu (aa st ops).1:=by induction ops generalizing st with
 | nil=>exact ⟨rfl,h⟩
 | cons o r ih => have h1:=wh h (b o SD);rw [gq _ h1.1];exact ih (step_ok a o).1 h1.2 λo' ho'=>by rw [(step_ok a o).2];exact b o' (SC _ ho')
theorem sn (o:Op) (y:Nat×List UInt8) (a:y∈(step st o).1.P):y∈st.P\/Wr [o] y.1 y.2:=by cases o with
 | fl =>
 have a:y∈(Dm.flush st).1.P:=a;unfold Dm.flush at a;split at a;· cases a
 ·exact .inl (by rw [Dm.h_]at a;exact a)
 | wr k d =>
 have a:y∈(Dm.write st (k:Int) d).1.P:=a;obtain ⟨f,c,b⟩:=Dm.DP st (k:Int) d;rw [c]at a;rcases RR.1 a with a|a;· exact .inl a
 ·right;simp only [Dm.news,List.mem_map,RP]at a;obtain ⟨j,e,rfl⟩:=a;obtain ⟨_,g,_⟩:=b (by omega);rw [GH];exact ⟨k,d,H5.2 rfl,by show k<=k+j;omega,by show k+j<_;omega,by show (Dm.chunks d).getD j []= _;rw [Dm.rZ _ _ (by omega),show k+j - k= j by omega]⟩
theorem sw (ops:List Op) (y:Nat×List UInt8) (a:y∈(aa st ops).1.P):y∈st.P\/Wr ops y.1 y.2:=by induction ops generalizing st with
 | nil=>exact .inl a
 | cons o r ih =>
 have h1:y∈(step st o).1.P->y∈st.P\/Wr (o :: r) y.1 y.2:=λh=>(sn o y h).imp id λh=>h.mono λo' ho'=>by rw [H5.1 ho'];exact SD
 by_cases b:(step st o).2= 0;·
  rw [gq _ b]at a;rcases ih a with h|h;· exact h1 h
  ·exact .inr (h.mono λo' ho'=>SC _ ho')
 ·rw [iy _ b]at a;exact h1 a
theorem wj (h:(step st .fl).2= 0):(step st .fl).1.P= []:=by have h:(Dm.flush st).2= 0:=h;show (Dm.flush st).1.P= [];unfold Dm.flush at h⊢;cases hb:Dm.cR st with
 | false=>rw [hb]at h;simp at h
 | true=>rfl
theorem lX (h:(aa st (ops ++ [.fl])).2= 0):(aa st (ops ++ [.fl])).1.P= []:=by
 by_cases h1:(aa st ops).2= 0;· rw [ia _ h1,kd]at h⊢;exact wj h
 ·rw [ke _ h1]at h;exact absurd h h1
structure sx (f:Nat->List UInt8) (W:List Op) (st:Dm.St):Prop where
 ok:Dm.Ok st
 stands:∀x,st.S.getD x []= f x\/Wr W x (st.S.getD x [])
 bQ:∀y∈st.P,Wr W y.1 y.2
theorem sx.step {f:Nat->List UInt8} (h:sx f W st) {o:Op} (b:o∈W):sx f W (step st o).1:=by refine ⟨(step_ok h.ok o).1,λx=>?_,λy a=>(sn o y a).elim (h.bQ y) λhw=>hw.mono λo' ho'=>by rw [H5.1 ho'];exact b⟩;cases o with
 | wr k d => have:(So.step st (.wr k d)).1.S= st.S:=(Dm.lV h.ok (k:Int) d).2.1;rw [this];exact h.stands x
 | fl =>
 show (Dm.flush st).1.S.getD x []= f x\/Wr W x ((Dm.flush st).1.S.getD x []);unfold Dm.flush;split;·
  rcases Dm.DL (Dm.all st.P) (S:=st.S) (P:=st.P) (λy a=>(h.ok.writes y a).1) x with e|⟨y,a,c⟩;· show (Dm.settle st.S st.P (Dm.all st.P)).getD x []= f x\/Wr W x ((Dm.settle st.S st.P (Dm.all st.P)).getD x []);rw [e];exact h.stands x
  ·right;have:=h.bQ y a;rw [c]at this;exact this
 ·rw [Dm.fB];exact h.stands x
def sec:Op->Nat
 | .wr _ d=>d.length / 64
 | .fl=>0
theorem sy (h:Dm.Ok st) (o:Op):(step st o).1.P.length<=st.P.length+sec o:=by cases o with
 | wr k d=>exact (Dm.lV h (k:Int) d).2.2
 | fl =>
 show (Dm.flush st).1.P.length<=_;unfold Dm.flush;split;· exact Nat.zero_le _
 ·rw [Dm.h_];exact UL _ _
theorem kS (h:Dm.Ok st) (ops:List Op):(aa st ops).1.P.length<=st.P.length+ (ops.map sec).sum:=by induction ops generalizing st with
 | nil=>exact UL _ _
 | cons o r ih =>
 have h1:=sy h o;simp only [UJ,List.sum_cons];by_cases a:(step st o).2= 0;· rw [gq _ a];have:=ih (step_ok h o).1;omega
 ·rw [iy _ a];omega
end So
end
section
namespace Hp
def at_ (g:zN) (k:Nat):Int:=g.getD k 0
theorem iX (g:zN) (k:Nat) (h:k<g.length):g[k]?= some (at_ g k):=by unfold at_;rw [FU,C1 h];rfl
theorem wk (g:zN) (x:Int) (k:Nat) (h:k<g.length):at_ (g ++ [x]) k= at_ g k:=by unfold at_;rw [FU,FU,List.getElem?_append_left h]
theorem at_mem (g:zN) (k:Nat) (h:k<g.length):at_ g k∈g:=by have:=iX g k h;exact List.mem_of_getElem? this
variable{g:zN}
theorem DV {x:Int} (h:x∈g):∃k,k<g.length/\at_ g k= x:=by obtain ⟨k,hk,e⟩:=List.getElem_of_mem h;refine ⟨k,hk,?_⟩;unfold at_;rw [FU,C1 hk,e];rfl
def swap (g:zN) (i j:Nat):zN:=(g.set i (at_ g j)).set j (at_ g i)
theorem lY (g:zN) (i j:Nat):(swap g i j).length= g.length:=by simp [swap]
theorem wm (g:zN) (i k:Nat) (x:Int) (h:i<g.length):at_ (g.set i x) k= if k= i then x else at_ g k:=by
 unfold at_;rw [FU,FU,P4];by_cases e:i= k;· subst e;simp [h]
 ·rw [if_neg e,if_neg (λc=>e c.symm)]
theorem ib (g:zN) (i j k:Nat) (hi:i<g.length) (a:j<g.length):at_ (swap g i j) k= if k= j then at_ g i else if k= i then at_ g j else at_ g k:=by unfold swap;rw [wm _ _ _ _ (by simpa using a),wm _ _ _ _ hi]
theorem swap_perm (g:zN) (i j:Nat) (hi:i<g.length) (a:j<g.length):(swap g i j).Perm g:=by
 have c:at_ g j= g[j]:=by unfold at_;rw [FU,C1 a];rfl
 have b:at_ g i= g[i]:=by unfold at_;rw [FU,C1 hi];rfl
 unfold swap;rw [c,b];exact List.set_set_perm hi a
abbrev par (k:Nat):Nat:=(k - 1) / 2
def kT (g:zN) (n:Nat):Prop:=∀k,0<k->k<n->at_ g (par k)<=at_ g k
def Heap (g:zN):Prop:=kT g g.length
theorem DW:Heap []:=λk _ h=>by simp at h
variable{n:Nat}
theorem DX (h:kT g n):∀k,k<n->at_ g 0<=at_ g k:=by intro k;induction k using Nat.strongRecOn with
 | ind k ih =>
 intro hk;by_cases e:k= 0;· rw [e];exact T9 _
 ·exact VT (ih (par k) (by unfold par;omega) (by unfold par;omega)) (h k (by omega) hk)
def Up (g:zN) (j:Nat):Prop:=j<g.length/\(∀k,0<k->k<g.length->k≠j->at_ g (par k)<=at_ g k)/\(∀k,0<k->k<g.length->par k= j->0<j->at_ g (par j)<=at_ g k)
theorem DY (h:Heap g) (x:Int):Up (g ++ [x]) g.length:=by
 refine ⟨by simp,λk h0 hk hne=>?_,λk h0 hk e _=>?_⟩;·
  have a:k<g.length:=by simp at hk;omega
  rw [wk _ _ _ a,wk _ _ _ (by unfold par;omega)];exact h k h0 a
 ·simp at hk;unfold par at e;omega
variable{j:Nat}
theorem wq (h:Up g j) (hd:j= 0\/at_ g (par j)<=at_ g j):Heap g:=by
 intro k a hk;by_cases e:k= j;·
  subst e;rcases hd with hd|hd;· omega
  ·exact hd
 ·exact h.2.1 k a hk e
theorem DZ (h:Up g j) (r:0<j) (p:at_ g j<at_ g (par j)):Up (swap g (par j) j) (par j):=by
 obtain ⟨b,h1,q⟩:=h;have hp:par j<g.length:=by unfold par;omega
 have o:par j<j:=by unfold par;omega
 refine ⟨by rw [lY];exact hp,λk hk hkl hne=>?_,λk hk hkl e hpos=>?_⟩;·
  rw [lY]at hkl;rw [ib _ _ _ _ hp b,ib _ _ _ _ hp b];by_cases a:k= j;· subst a;rw [if_neg (by omega),if_pos rfl,if_pos rfl];omega
  ·rw [if_neg (by omega:¬k= j),if_neg hne];by_cases l:par k= j;· rw [if_pos l];exact q k hk hkl l r
   ·rw [if_neg l];by_cases i:par k= par j;· rw [if_pos i];have:=h1 k hk hkl a;rw [i]at this;omega
    ·rw [if_neg i];exact h1 k hk hkl a
 ·rw [lY]at hkl;have n:par (par j) <par j:=by show (par j - 1) / 2<par j;omega
  have d:=hp;have m:=h1 (par j) hpos d (by omega);rw [ib _ _ _ _ hp b,ib _ _ _ _ hp b,if_neg (by omega:¬par (par j)= j),if_neg (by omega:¬par (par j)= par j)];have f:k≠par j:=by intro c;rw [c]at e;omega
  by_cases a:k= j;· rw [if_pos a];exact m
  ·rw [if_neg a,if_neg f];have:=h1 k hk hkl a;rw [e]at this;exact VT m this
def Down (g:zN) (i n:Nat):Prop:=n<=g.length/\(∀k,0<k->k<n->par k≠i->at_ g (par k)<=at_ g k)/\(∀k,0<k->k<n->par k= i->0<i->at_ g (par i)<=at_ g k)
theorem D3 (h:Heap g) (n:Nat) (a:g.length= n+1):Down (swap g 0 n) 0 n:=by refine ⟨by rw [lY];omega,λk h0 hk hne=>?_,λk h0 hk e hpos=>by omega⟩;rw [ib _ _ _ _ (by omega) (by omega),ib _ _ _ _ (by omega) (by omega),if_neg (by unfold par;omega),if_neg hne,if_neg (by omega),if_neg (by omega)];exact h k h0 (by omega)
theorem D4 {i:Nat} (h:Down g i n) (a:n<=2*i+1):kT g n:=λk h0 hk=>h.2.1 k h0 hk (by unfold par;omega)
def lZ (g:zN) (i j n:Nat):Prop:=j<n/\par j= i/\0<j/\∀k,0<k->k<n->par k= i->at_ g j<=at_ g k
theorem D5 {i:Nat} (h:2*i+1<n) (a:n<=2*i+2\/at_ g (2*i+1)<=at_ g (2*i+2)):lZ g i (2*i+1) n:=by
 refine ⟨h,by unfold par;omega,by omega,λk h0 hk e=>?_⟩;have:k= 2*i+1\/k= 2*i+2:=by unfold par at e;omega
 rcases this with rfl|rfl;· exact T9 _
 ·rcases a with a|a;· omega
  ·exact a
theorem D6 {i:Nat} (h:2*i+2<n) (a:at_ g (2*i+2) <at_ g (2*i+1)):lZ g i (2*i+2) n:=by
 refine ⟨h,by unfold par;omega,by omega,λk h0 hk e=>?_⟩;have:k= 2*i+1\/k= 2*i+2:=by unfold par at e;omega
 rcases this with rfl|rfl;· omega
 ·exact T9 _
theorem D7 {i:Nat} (h:Down g i n) (a:lZ g i j n) (hd:at_ g i<=at_ g j):kT g n:=λk h0 hk=>by
 by_cases e:par k= i;· rw [e];exact VT hd (a.2.2.2 k h0 hk e)
 ·exact h.2.1 k h0 hk e
theorem D8 {i:Nat} (h:Down g i n) (t:lZ g i j n) (s:at_ g j<at_ g i):Down (swap g i j) j n:=by
 obtain ⟨r,h1,w⟩:=h;obtain ⟨u,hp,o,f⟩:=t;have v:i<j:=by unfold par at hp;omega
 have b:i<g.length:=by omega
 have a:j<g.length:=by omega
 refine ⟨by rw [lY];exact r,λk h0 hk hne=>?_,λk h0 hk e hpos=>?_⟩;·
  rw [ib _ _ _ _ b a,ib _ _ _ _ b a,if_neg hne];by_cases d:par k= i;·
   rw [if_pos d];by_cases q:k= j;· rw [if_pos q];omega
   ·rw [if_neg q,if_neg (by unfold par at d;omega)];exact f k h0 hk d
  ·rw [if_neg d,if_neg (by intro c;rw [c]at d;exact d hp)];by_cases p:k= i;· rw [if_pos p,p];exact w j o u hp (by omega)
   ·rw [if_neg p];exact h1 k h0 hk d
 ·rw [hp,ib _ _ _ _ b a,ib _ _ _ _ b a,if_neg (by omega),if_pos rfl];have l:k≠j:=by unfold par at e;omega
  have m:k≠i:=by unfold par at e;omega
  rw [if_neg l,if_neg m];have:=h1 k h0 hk (by omega);rw [e]at this;exact this
theorem D9 (a:g.length= n+1):g= g.take n ++ [at_ g n]:=by
 have e:at_ g n= g[n]:=by unfold at_;rw [FU,C1 (by omega)];rfl
 rw [e];have:=T8 n g;rw [List.drop_eq_getElem_cons (by omega),List.drop_eq_nil_of_le (by omega)]at this;exact this.symm
theorem D_ (h:kT g n) (c:n<=g.length):Heap (g.take n):=by
 intro k b hk;have a:k<n:=by simp at hk;omega
 have e:∀i,i<n->at_ (g.take n) i= at_ g i:=λi hi=>by unfold at_;rw [FU,FU,List.getElem?_take,if_pos hi]
 rw [e k a,e (par k) (by unfold par;omega)];exact h k b a
end Hp
end
end Go.Proofs.YtchihokmgmchcaaGreat
