/- Sna1, of the proof -/
import Derived.Test.YtchihokmgmchcaaGreatSrI1
import Derived.Test.YtchihokmgmchcaaGreatSrG1
import Derived.Test.YtchihokmgmchcaaGreatSq0K
set_option linter.unusedVariables false
set_option maxRecDepth 100000
set_option maxHeartbeats 4000000
namespace Go.Proofs.YtchihokmgmchcaaGreat
open Go.Proofs.Tryz
open Nat renaming le_refl->nm
open List renaming filter_append->UP,flatMap_append->Xa,getD_eq_getElem?_getD->FU,getElem?_append_left->TE,getElem?_append_right->TY,getElem?_eq_none->Tv,getElem?_eq_some_iff->C2,getElem?_set->P4,getElem?_toArray->Ud,length_append->DC,length_filter_le->Uw,length_map->PN,length_range->Tw,map_append->R0,mem_cons_of_mem->SC,mem_cons_self->SD,mem_range->RP,range->MR,range_succ->TO,replicate->vw
open Go.Ending renaming returned->nf
open Go.IntWalk renaming i64_in->rr
open Go.Lib renaming hid->hT
open Go.RowKit.Below renaming refl->G3
section
namespace So
open Go.RowKit
structure Aside (b c:Bk):Prop where
 d:c.d= b.d
 q:c.q≠b.q
 qt:¬b.t.fp c.q
 tq:¬c.t.fp b.q
 t:∀k,c.t.fp k->¬b.t.fp k
theorem Aside.symm {b c:Bk} (h:Aside b c):Aside c b:=⟨h.d.symm,h.q.symm,h.tq,h.qt,λk h1 h2=>h.t k h2 h1⟩
variable{p:Pa}{st:Dm.St}
theorem Sk.beside {w w':World} {b b' c:Bk} {pc:Pa} {inv inv' invc:Bool} {st':Dm.St} {m m' mc:zN} (s:Sk w b p inv st m) (o:Sk w' b' p inv' st' m') (g:Sp b b' w w') (f:Sk w c pc invc st mc) (e:Aside b c): Sk w' {c with d:=b'.d} pc invc st' mc/\Aside b' {c with d:=b'.d}:=by
 have r:=f.lt c.q (.inl rfl);have l:¬b.d.fp c.q:=by rw [<-e.d];exact f.qd
 have j:¬b.fp c.q:=λa=>by
  rcases a with a|a|a;· exact e.q a
  ·exact l a
  ·exact e.qt a
 have i:∀k,c.t.fp k->¬b.fp k:=λk hk a=>by
  rcases a with a|a|a;· exact e.tq (a▸hk)
  ·exact f.dt k (by rw [e.d];exact a) hk
  ·exact e.t k hk a
 have new:∀k,b'.d.fp k->k<w.heap.size->b.d.fp k:=λk hk n=>(g.df k hk).elim id λc=>by omega
 refine ⟨⟨?_,o.dk,f.tm.keep g.fr i,λk hk ht=>?_,λa=>l (new _ a r),f.qt⟩,⟨rfl,?_,λa=>?_,λa=>?_,λk hk a=>?_⟩⟩;· show w'.heap[c.q]?= some (.cells #[_,_,_,zP b'.d.p,_,_,_,_,_,_,_] _ _);rw [g.fr.block c.q r j,f.head,g.dp,<-e.d];rfl
 ·exact f.dt k (by rw [e.d];exact new k hk (f.tm.lt k ht)) ht
 ·show c.q≠b'.q;rw [g.q];exact e.q
 ·have a:b'.t.fp c.q:=a;rcases g.fp _ (.inr (.inr a)) with h|h;· exact j h
  ·omega
 ·have a:c.t.fp b'.q:=a;rw [g.q]at a;exact e.tq a
 ·have hk:c.t.fp k:=hk;have n:=f.tm.lt k hk;rcases g.fp _ (.inr (.inr a)) with h|h;· exact i k hk h
  ·omega
def cW (p:Pa) (x:Nat):Prop:=p.st<=x/\x<p.st+p.ln
theorem tb (hp:p.Ok):cW p p.st:=⟨nm _,by have:=hp.ag.size;omega⟩
theorem td (hp:p.Ok) {i:Nat} (hi:i<p.pg):cW p (p.ar i):=⟨by unfold Pa.ar;omega,Pa.kY hp hi⟩
theorem te (hp:p.Ok) {i j:Nat} (hi:i<p.N) (a:j<p.g):cW p (p.data i+j):=⟨by unfold Pa.data;omega,Pa.xo hp hi a⟩
theorem fg.lh (hp:p.Ok) {f f':Nat->List UInt8} {M:Ms} (h:fg p f M) (a:Fit p M) (e:∀x,cW p x->f' x= f x):fg p f' M:= ⟨by rw [e _ (tb hp)];exact h.head,λhv i hi=>by rw [e _ (td hp hi)];exact h.ar hv i hi,λi k hk h0 j hj=>by rw [e _ (te hp (a.lt hk) hj)];exact h.data i k hk h0 j hj⟩
theorem Gl (hp:p.Ok) {M:Ms} (k:Fit p M) {l:zY} (n:ee M.T l) (j:∀c∈l,c.2.length= 64*p.g) {cs:List Nat} (m:pS (ak M.T l) cs) {x:Nat} {d:zL} (h:Wr (aV p M.T l cs) x d):cW p x:=by
 have A:=added n;have a:∀q∈ak M.T l,q<p.N:=λq b=>by rw [<-k.fD];exact (A.free q b).1
 unfold aV at h;rcases kZ h with h|h;· obtain ⟨t,e,c2,s,h1,_,r,o,_⟩:=nN j (fF h);rw [o];exact te hp (a e (List.mem_of_getElem? h1)) r
 ·obtain ⟨i,hi,f,_⟩:=kj (fF h);rw [f];obtain ⟨q,b,rfl⟩:=(m i).1 hi;have:=a q b;exact td hp (by unfold Pa.pg Tb.a_;omega)
theorem Gm (hp:p.Ok) {x:Nat} {d:zL} (h:Wr (bY p) x d):cW p x:=by have:=(nO (fF (a:= [cU p true]) h)).1;rw [this];exact tb hp
theorem Gn (hp:p.Ok) {i k:Nat} {d:zL} (hi:i<p.N) (hk:k+d.length / 64<=p.g) {x:Nat} {v:zL} (h:Wr [cV p i k d] x v):cW p x:=by obtain ⟨j,b,_,_,a,_⟩:=kl hk h;rw [a];exact te hp hi b
structure Calm (R:Nat->Prop) (f:Nat->List UInt8) (st:Dm.St):Prop where
 ok:Dm.Ok st
 S:∀x,R x->st.S.getD x []= f x
 P:∀y∈st.P,¬R y.1
variable{P:List (Nat×List UInt8)}
theorem Gp {x:Nat} (h:∀y∈P,y.1≠x) (d:zL):Dm.last P x d= d:=by unfold Dm.last;induction P generalizing d with
 | nil=>rfl
 | cons y P ih => rw [List.foldl_cons,if_neg (h y SD)];exact ih (λz hz=>h z (SC _ hz)) d
variable{R:Nat→Prop}{f:Nat→List UInt8}
theorem Calm.one (h:Calm R f st) {x:Nat} (a:R x):Dm.one st x= f x:=by unfold Dm.one;rw [Gp (λy hy e=>h.P y hy (e▸a)),h.S x a]
theorem xI {x:Nat} (h:∀y∈P,y.1≠x) (S:List (List UInt8)) (keep:List Bool):(Dm.settle S P keep).getD x []= S.getD x []:=by induction P generalizing S keep with
 | nil=>rfl
 | cons y P ih =>
 have a:=h y SD;have:=ih (λz hz=>h z (SC _ hz)) (if keep.headD false then S.set y.1 y.2 else S) keep.tail;show (Dm.settle (if keep.headD false then S.set y.1 y.2 else S) P keep.tail).getD x []= _;rw [this];split;· rw [FU,P4,if_neg a,<-FU]
 ·rfl
theorem Calm.step (h:Calm R f st) {o:Op} (b:∀x d,R x->¬Wr [o] x d):Calm R f (step st o).1:=by
 refine ⟨(step_ok h.ok o).1,λx hx=>?_,λy a=>?_⟩;· cases o with
  | wr k d => have:(So.step st (.wr k d)).1.S= st.S:=(Dm.lV h.ok (k:Int) d).2.1;rw [this];exact h.S x hx
  | fl =>
  show (Dm.flush st).1.S.getD x []= f x;unfold Dm.flush;split;· show (Dm.settle st.S st.P (Dm.all st.P)).getD x []= f x;rw [xI (λy a e=>h.P y a (e▸hx))];exact h.S x hx
  ·rw [Dm.fB];exact h.S x hx
 ·rcases sn o y a with a|hw;· exact h.P y a
  ·exact λhR=>b _ _ hR hw
structure gB (R:Nat->Prop) (st st0:Dm.St):Prop where
 bj:st.bj= st0.bj
 dead:st.dead= st0.dead
 len:st.S.length= st0.S.length
 S:∀x,R x->st.S.getD x []= st0.S.getD x []
 P:∃Q,st.P= Q ++ st0.P/\∀y∈Q,¬R y.1
theorem gB.kR {st0:Dm.St} (h:gB R st st0):Dm.cR st= Dm.cR st0/\gB R (Dm.bw st) (Dm.bw st0):=by
 refine ⟨by unfold Dm.cR;rw [h.bj,h.dead],?_⟩;obtain ⟨Q,b,a⟩:=h.P;refine ⟨?_,?_,by rw [Dm.fB,Dm.fB];exact h.len,λx hx=>by rw [Dm.fB,Dm.fB];exact h.S x hx,Q,by rw [Dm.h_,Dm.h_];exact b,a⟩;·
  unfold Dm.bw;rw [h.bj,h.dead];split;· rfl
  ·split;· exact h.bj
   ·rfl
 ·unfold Dm.bw;rw [h.bj,h.dead];split;· rfl
  ·split;· exact h.dead
   ·rfl
theorem gB.bJ {cs:List (List UInt8)} {st0:Dm.St} (h:gB R st st0) (k:Nat):(Dm.bJ st k cs).2= (Dm.bJ st0 k cs).2/\gB R (Dm.bJ st k cs).1 (Dm.bJ st0 k cs).1:=by induction cs generalizing st st0 k with
 | nil=>exact ⟨rfl,h⟩
 | cons c cs ih => obtain ⟨b,a⟩:=h.kR;unfold Dm.bJ;rw [b];cases Dm.cR st0 with
 | false=>exact ⟨rfl,a⟩
 | true => simp only [if_true];refine ih (st:=Dm.put (Dm.bw st) k c) (st0:=Dm.put (Dm.bw st0) k c) ?_ (k+1);obtain ⟨Q,e,d⟩:=a.P;exact ⟨a.bj,a.dead,a.len,a.S,Q,by show (Dm.bw st).P ++ [(k,c)]= _;rw [e,List.append_assoc];rfl,d⟩
theorem Gq (P Q:List (Nat×List UInt8)) (S:List (List UInt8)) (keep:List Bool):Dm.settle S (Q ++ P) keep= Dm.settle (Dm.settle S Q keep) P (keep.drop Q.length):=by induction Q generalizing S keep with
 | nil=>rfl
 | cons y Q ih => show Dm.settle (if keep.headD false then S.set y.1 y.2 else S) (Q ++ P) keep.tail= Dm.settle (Dm.settle (if keep.headD false then S.set y.1 y.2 else S) Q keep.tail) P _;rw [ih];congr 1;rw [List.length_cons];cases keep<;>simp
theorem Gr {S S0:List (List UInt8)} (a:S.length= S0.length) (h:∀x,R x->S.getD x []= S0.getD x []) (keep:List Bool) (x:Nat) (b:R x):(Dm.settle S P keep).getD x []= (Dm.settle S0 P keep).getD x []:=by induction P generalizing S S0 keep with
 | nil=>exact h x b
 | cons y P ih =>
 refine ih (S:=if keep.headD false then S.set y.1 y.2 else S) (S0:=if keep.headD false then S0.set y.1 y.2 else S0) ?_ (λz hz=>?_) keep.tail;· split<;>simp [a]
 ·split;·
   rw [FU,FU,P4,P4,a];split;· rfl
   ·rw [<-FU,<-FU];exact h z hz
  ·exact h z hz
theorem gB.settle {st0:Dm.St} (h:gB R st st0) (keep:List Bool):∃keep0,(keep= Dm.all st.P->keep0= Dm.all st0.P)/\∀x,R x->(Dm.settle st.S st.P keep).getD x []= (Dm.settle st0.S st0.P keep0).getD x []:=by
 obtain ⟨Q,a,b⟩:=h.P;refine ⟨keep.drop Q.length,λe=>?_,λx hx=>?_⟩;· rw [e,a];unfold Dm.all;rw [R0,List.drop_append_of_le_length (by simp),List.drop_of_length_le (by simp),List.nil_append]
 ·rw [a,Gq];refine Gr (R:=R) (by rw [Dm.lU];exact h.len) (λz hz=>?_) _ x hx;rw [xI (λy hy e=>b y hy (e▸hz))];exact h.S z hz
theorem gB.step {st0:Dm.St} (h:gB R st st0) (o:Op):(So.step st o).2= (So.step st0 o).2∧gB R (So.step st o).1 (So.step st0 o).1:=by
  cases o with
  | fl =>
    show (Dm.flush st).2= (Dm.flush st0).2∧gB R (Dm.flush st).1 (Dm.flush st0).1
    obtain ⟨e,a⟩:=h.kR
    unfold Dm.flush
    rw [e]
    cases Dm.cR st0 with
    | false=>exact ⟨rfl,a⟩
    | true =>
      show (0:Int)= 0∧gB R ⟨Dm.settle st.S st.P (Dm.all st.P), [],(Dm.bw st).bj,(Dm.bw st).dead⟩ ⟨Dm.settle st0.S st0.P (Dm.all st0.P), [],(Dm.bw st0).bj,(Dm.bw st0).dead⟩
      obtain ⟨f,hk,b⟩:=h.settle (Dm.all st.P)
      refine ⟨rfl,a.bj,a.dead,?_,fun x hx=>?_, [],rfl,fun y hy=>by cases hy⟩
      · show (Dm.settle st.S st.P _).length= (Dm.settle st0.S st0.P _).length
        rw [Dm.lU,Dm.lU]
        exact h.len
      · have:=b x hx
        rw [hk rfl]at this
        exact this
  | wr k d =>
    show (Dm.write st (k:Int) d).2= (Dm.write st0 (k:Int) d).2∧gB R (Dm.write st (k:Int) d).1 (Dm.write st0 (k:Int) d).1
    unfold Dm.write
    have c:Dm.dn st (k:Int) ((d.length / 64:Nat):Int)= Dm.dn st0 (k:Int) ((d.length / 64:Nat):Int):=by unfold Dm.dn;rw [h.len]
    rw [h.dead,c]
    split
    · exact ⟨rfl,h⟩
    · split
      · split
        · exact h.bJ _
        · exact ⟨rfl,h⟩
      · exact ⟨rfl,h⟩
structure Td (p:Pa) (st:Dm.St) (M:Ms):Prop where
 ok:Dm.Ok st
 out:∀y∈st.P,¬cW p y.1
 fit:Fit p M
 ed:fg p (Dm.one st) M
variable{L:zL}{n j:Nat}
theorem yN (h:L.length= 64*n) (a:j<n):(piece L j).length= 64:=by unfold piece;rw [List.length_take,List.length_drop];omega
theorem yO (L:zL) (i:Nat):L[i]?= (piece L (i / 64))[i % 64]?:=by unfold piece;rw [List.getElem?_take,if_pos (Nat.mod_lt _ (by decide)),List.getElem?_drop];congr 1;omega
theorem Jo {L':zL} (h:L.length= 64*n) (a:L'.length= 64*n) (e:∀j,j<n->piece L j= piece L' j):L= L':=by
 refine List.ext_getElem? λi=>?_;by_cases hi:i<64*n;· rw [yO L,yO L',e _ (by omega)]
 ·rw [Tv (by omega),Tv (by omega)]
def bI (n:Nat) (v:Nat->List UInt8):zL:=((MR n).map v).flatten
variable{v:Nat→List UInt8}
theorem yP (h:∀j,j<n->(v j).length= 64):∀x∈(MR n).map v,x.length= 64:=λx hx=>by obtain ⟨j,a,rfl⟩:=List.mem_map.1 hx;exact h j (RP.1 a)
theorem mK (h:∀j,j<n->(v j).length= 64):(bI n v).length= 64*n:=by unfold bI;rw [Dm.ix (yP h),PN,Tw]
theorem qx (h:∀j,j<n->(v j).length= 64) {j:Nat} (a:j<n):piece (bI n v) j= v j:=by unfold piece bI;rw [Dm.lR (yP h) j (by rw [PN,Tw];exact a),FU,List.getElem?_map,List.getElem?_range a];rfl
theorem tW (b:L.length= 64*n) (h:∀j,j<n->v j= piece L j):bI n v= L:=by
 have a:∀j,j<n->(v j).length= 64:=λj hj=>by rw [h j hj];exact yN b hj
 exact Jo (mK a) b λj hj=>by rw [qx a hj,h j hj]
theorem eu {v':Nat->List UInt8} (h:∀j,j<n->v j= v' j):bI n v= bI n v':=by unfold bI;congr 1;exact List.map_congr_left λj hj=>h j (RP.1 hj)
theorem Jp (b:∀j,j<n->(v j).length= 64) {a:Nat} {d:zL} (hd:d.length % 64= 0) (e:a+d.length / 64<=n): bI n (λj=>if a<=j/\j<a+d.length / 64 then piece d (j - a) else v j)= splice (bI n v) d a:=by
 have c:=mK b;refine tW (by rw [pU (by omega),c]) λj hj=>?_;rw [pV (by omega) hd];split;· rfl
 ·rw [qx b hj]
theorem Jq {a m:Nat} (b:j<m):piece ((L.drop (64*a)).take (64*m)) j= piece L (a+j):=by unfold piece;rw [List.drop_take,List.take_take,List.drop_drop,show 64*a+64*j= 64* (a+j) by omega,show min 64 (64*m - 64*j)= 64 by omega]
theorem tX {m:zN} (b:Tb.Ok m) {i:Nat} {y c:Int} (hi:m[i]?= some y) (j:y<0) (h:0<=c) (h1:c<=2147483646) (g:c∉m) (x:Int) (f:0<=x):Tb.find (m.set i c) x= if x= c then some i else Tb.find m x:=by
 have d:=(C2.1 hi).1;have a:=b.set i (by omega) h1 λ_=>g;split;· rename_i e;subst e;exact a.find h (by rw [P4,if_pos rfl,if_pos d])
 ·rename_i e;cases hf:Tb.find m x with
  | some k => obtain ⟨_,hk,_⟩:=Tb.iz.1 hf;refine a.find f ?_;rw [P4,if_neg (λe2=>by subst e2;rw [hi]at hk;injection hk with hk;omega)];exact hk
  | none =>
  rw [Tb.ic];intro _ hm;rcases List.mem_or_eq_of_mem_set hm with hm|hm;· exact (Tb.ic.1 hf f) hm
  ·exact e hm
def view (g:Nat) (M:Ms) (u:Nat->List UInt8) (j:Nat):zL:=match Tb.find M.T ((j / g:Nat):Int) with
 | some k=>piece (M.D.getD k []) (j % g)
 | none=>u j
variable{g:Nat}{M:Ms}{u:Nat→List UInt8}
theorem gE (h:Tb.find M.T ((j / g:Nat):Int)= none):view g M u j= u j:=by unfold view;rw [h]
theorem jJ {k:Nat} (h:Tb.find M.T ((j / g:Nat):Int)= some k):view g M u j= piece (M.D.getD k []) (j % g):=by unfold view;rw [h]
theorem Jr (p:Pa) (g:Nat) (u:Nat->List UInt8) (j:Nat):view g (Ms.new p) u j= u j:=by refine gE (Tb.ic.2 λ_ hm=>?_);have:=(List.mem_replicate.1 (show ((j / g:Nat):Int)∈vw p.N (-1:Int) from hm)).2;omega
theorem gF {u':Nat->List UInt8} (h:Tb.find M.T ((j / g:Nat):Int)= none->u' j= u j):view g M u' j= view g M u j:=by cases hf:Tb.find M.T ((j / g:Nat):Int) with
 | some k=>rw [jJ hf,jJ hf]
 | none=>rw [gE hf,gE hf,h hf]
theorem Js (a:Fit p M) (c:1<=p.g) {u:Nat->List UInt8} {j:Nat} (hu:(u j).length= 64):(view p.g M u j).length= 64:=by cases h:Tb.find M.T ((j / p.g:Nat):Int) with
 | some k => obtain ⟨b,hk,_⟩:=Tb.iz.1 h;rw [jJ h];exact yN (a.size k _ hk b) (Nat.mod_lt _ (by omega))
 | none=>rw [gE h];exact hu
theorem om {c:Int} {d:zL} {i:Nat} (a:Tb.bn M.T= some i):(M.du [(c,d)]).T= M.T.set i c/\(M.du [(c,d)]).D= M.D.set i d:=by
 refine ⟨?_,?_⟩;· show M.T.set ((Tb.bn M.T).getD 0) c= _;rw [a];rfl
 ·show M.D.set ((Tb.bn M.T).getD 0) d= _;rw [a];rfl
theorem yQ (o:Fit p M) (w:1<=p.g) {c:Nat} {d:zL} {i:Nat} (b:Tb.bn M.T= some i) (t:c<=2147483646) (r:Tb.find M.T (c:Int)= none) {u:Nat->List UInt8} {j:Nat} (hu:j / p.g= c->piece d (j % p.g)= u j): view p.g (M.du [((c:Int),d)]) u j= view p.g M u j:=by
 obtain ⟨v,s⟩:=om (c:=(c:Int)) (d:=d) b;obtain ⟨⟨y,l,f⟩,_⟩:=Tb.jw.1 b;have q:=Tb.ic.1 r (by omega);have a:=tX o.tok l f (c:=(c:Int)) (by omega) (by omega) q ((j / p.g:Nat):Int) (Int.natCast_nonneg _);rw [<-v]at a;by_cases e:j / p.g= c;·
  rw [if_pos (by rw [e])]at a;rw [jJ a,s,gE (by rw [e];exact r)];have n:i<M.D.length:=by rw [o.iC];exact o.lt l
  rw [FU,P4,if_pos rfl,if_pos n];exact hu e
 ·rw [if_neg (by omega)]at a;cases h:Tb.find M.T ((j / p.g:Nat):Int) with
  | none => rw [h]at a;rw [gE a,gE h]
  | some k =>
  rw [h]at a;rw [jJ a,jJ h,s];have m:i≠k:=λe2=>by subst e2;obtain ⟨_,hk,_⟩:=Tb.iz.1 h;rw [l]at hk;injection hk with hk;omega
  rw [FU,P4,if_neg m,<-FU]
theorem Jt (l:Fit p M) (t:1<=p.g) {c i k:Nat} {d:zL} (m:Tb.find M.T (c:Int)= some i) (hd:d.length % 64= 0) (hk:k+d.length / 64<=p.g) (u:Nat->List UInt8) (j:Nat): view p.g (M.eJ i k d) u j= if j / p.g= c/\k<=j % p.g/\j % p.g<k+d.length / 64 then piece d (j % p.g - k) else view p.g M u j:=by
 obtain ⟨s,hi,_⟩:=Tb.iz.1 m;have r:=l.size i _ hi s;have f:i<M.D.length:=by rw [l.iC];exact l.lt hi
 have o:(M.eJ i k d).T= M.T:=rfl;cases h:Tb.find M.T ((j / p.g:Nat):Int) with
  | none => rw [gE (by rw [o];exact h),gE h,if_neg];rintro ⟨e,_⟩;rw [e,m]at h;cases h
  | some q =>
  rw [jJ (by rw [o];exact h),jJ h,sX f];by_cases e:i= q;·
   subst e;rw [if_pos rfl,pV (by omega) hd];have n:j / p.g= c:=by obtain ⟨_,b,_⟩:=Tb.iz.1 h;rw [hi]at b;injection b with b;omega
   by_cases a:k<=j % p.g/\j % p.g<k+d.length / 64;· rw [if_pos a,if_pos ⟨n,a⟩]
   ·rw [if_neg a,if_neg λhh=>a hh.2]
  ·rw [if_neg e,if_neg];rintro ⟨n,_⟩;rw [n,m]at h;injection h with h;exact e h
end So
end
section
namespace Sn
open Go.RowKit
structure One where
 s:Int
 a:Int
 n:Int
 gen:Nat
 b:List UInt8
 t:List Int
 inv:Bool
def One.none:One:=⟨0,0,0,0, [], [],false⟩
def One.gone (x:One):One:=⟨0,0,0,x.gen, [], [],false⟩
structure En where
 a:Nat
 n:Nat
 g:Nat
 b:List UInt8
 s:List One
def En.one (e:En) (i:Nat):One:=e.s.getD i One.none
def En.set (e:En) (i:Nat) (x:One):En:={e with s:=e.s.set i x}
theorem En.one_set {e:En} {i:Nat} (hi:i<e.s.length) (x:One) (j:Nat):(e.set i x).one j= if i= j then x else e.one j:=by
 unfold En.one En.set;rw [FU,P4];split;· rename_i h;subst h;simp
 ·rw [<-FU]
def En.there (e:En) (id:Int):Bool:=decide (1<=id) && decide (id<=16) && decide ((e.one (id - 1).toNat).s≠0)
def eA (e:En):Nat->Nat
 | 0=>0
 | k+1=>if eA e k≠0 then eA e k else if (e.one k).s= 2 then k+1 else 0
def En.al (e:En):Nat:=eA e 16
def cn (e:En) (k:Nat):zN:=((MR k).filter λi=>decide ((e.one i).s≠0)).map λi=>((i+1:Nat):Int)
theorem oL (e:En) (k:Nat):cn e (k+1)= if (e.one k).s≠0 then cn e k ++ [((k+1:Nat):Int)]else cn e k:=by
 unfold cn;rw [TO,UP,R0];by_cases h:(e.one k).s≠0;· rw [if_pos h];simp [h]
 ·rw [if_neg h];simp [h]
def aR (e:En) (k:Nat):zX:=((MR k).filter λi=>decide ((e.one i).s≠0)).map λi=>((e.one i).a,(e.one i).n)
theorem mV (e:En) (k:Nat):aR e (k+1)= if (e.one k).s≠0 then aR e k ++ [((e.one k).a,(e.one k).n)]else aR e k:=by
 unfold aR;rw [TO,UP,R0];by_cases h:(e.one k).s≠0;· rw [if_pos h];simp [h]
 ·rw [if_neg h];simp [h]
theorem re (e:En) (k:Nat):(aR e k).length<=k:=by unfold aR;rw [PN];exact Nat.le_trans (Uw _ _) (by rw [Tw];exact nm _)
theorem rh (e:En) (k:Nat):(cn e k).length<=k:=by unfold cn;rw [PN];exact Nat.le_trans (Uw _ _) (by rw [Tw];exact nm _)
def En.usable (e:En) (id:Int):Int:=if id= 0 then 0 else if e.there id= true then (if (e.al:Int)= id then 163 else if (e.one (id - 1).toNat).inv= true then 162 else 0) else 161
def En.whole (e:En) (id:Int):zL:=if id= 0 then e.b else (e.one (id - 1).toNat).b
def fq (x:One) (tv:Value):List Value:= [zI x.s,zI x.a,zI x.n,zU x.gen, .string (Om.B x.b),tv, .bool x.inv]
structure Eb where
 q:Nat
 tv:Nat->Value
def dX (e:Eb) (E:En) (k:Nat):List Value:=(MR k).flatMap λi=>fq (E.one i) (e.tv i)
theorem ri (e:Eb) (E:En) (k:Nat):(dX e E k).length= 7*k:=by induction k with
 | zero=>rfl
 | succ k ih => unfold dX at ih⊢;rw [TO,Xa,DC,ih];simp [fq];omega
theorem Ni (e:Eb) (E:En) (k:Nat):dX e E (k+1)= dX e E k ++ fq (E.one k) (e.tv k):=by unfold dX;rw [TO,Xa];simp
variable{e:Eb}{E:En}{k:Nat}{v:Value}
theorem uQ {i j:Nat} (hi:i<k) (a:(fq (E.one i) (e.tv i))[j]?= some v):(dX e E k)[7*i+j]?= some v:=by
 have b:j<7:=by have:=(C2.1 a).1;simpa [fq] using this
 induction k with
  | zero=>omega
  | succ k ih =>
  rw [Ni];by_cases h:i<k;· rw [TE (by rw [ri];omega)];exact ih h
  ·obtain rfl:i= k:=by omega
   rw [TY (by rw [ri];omega),ri,show 7*i+j - 7*i= j by omega];exact a
def Eb.cells (e:Eb) (E:En):List Value:= [zI E.a,zI E.n,zI E.g, .string (Om.B E.b)] ++ dX e E 16
theorem gk (e:Eb) (E:En):(e.cells E).length= 116:=by unfold Eb.cells;rw [DC,ri];rfl
theorem oM (e:Eb) (E:En) {j:Nat} (c:j<4):(e.cells E)[j]?= ([zI E.a,zI E.n,zI E.g, .string (Om.B E.b)]:List Value)[j]?:=by unfold Eb.cells;rw [TE (by simpa using c)]
theorem kG {i j:Nat} (hi:i<16) (c:(fq (E.one i) (e.tv i))[j]?= some v):(e.cells E)[4+7*i+j]?= some v:=by unfold Eb.cells;rw [TY (by simp;omega),show 4+7*i+j - ([zI E.a,zI E.n,zI E.g, .string (Om.B E.b)]:List Value).length= 7*i+j by simp;omega];exact uQ hi c
def Eb.fp (e:Eb) (k:Nat):Prop:=k= e.q\/∃i,i<16/\(e.tv i).ownBlock= some k
structure Ek (w:World) (e:Eb) (E:En):Prop where
 head:w.heap[e.q]?= some (.cells (e.cells E).toArray 74 (0,0))
 len:E.s.length= 16
 rows:∀i,i<16->Tb.Ints w (e.tv i) (E.one i).t
 own:∀i,i<16->(e.tv i).ownBlock≠some e.q
 ap:∀i j,i<16->j<16->i≠j->∀k,(e.tv i).ownBlock= some k->(e.tv j).ownBlock≠some k
variable{w:World}
theorem Ek.lt (h:Ek w e E) (k:Nat) (hk:e.fp k):k<w.heap.size:=by
 rcases hk with rfl|⟨i,hi,hk⟩;· exact ae.lt_of_heap h.head
 ·obtain ⟨c,a⟩:=ae.bV (h.rows i hi) k hk;exact ae.lt_of_heap a
theorem Ek.same {w':World} (h:Ek w e E) (hb:∀k,e.fp k->w'.heap[k]?= w.heap[k]?):Ek w' e E:= ⟨(hb _ (.inl rfl)).trans h.head,h.len,λi hi=>ae.bc (h.rows i hi) λk hk=>hb k (.inr ⟨i,hi,hk⟩),h.own,h.ap⟩
theorem Ek.below {w':World} (h:Ek w e E) (hb:zB w w'):Ek w' e E:=h.same λk hk=>hb.block k (h.lt k hk)
theorem Ek.keep {w':World} {F:Nat->Prop} (h:Ek w e E) (hf:ae.Fr F w w') (hd:∀k,e.fp k->¬F k):Ek w' e E:=h.same λk hk=>hf.block k (h.lt k hk) (hd k hk)
theorem Ek.low (h:Ek w e E):w.cell? (zD e.q 0)= some (zI E.a)/\w.cell? (zD e.q 1)= some (zI E.n)/\w.cell? (zD e.q 2)= some (zI E.g)/\w.cell? (zD e.q 3)= some (.string (Om.B E.b)):=by refine ⟨?_,?_,?_,?_⟩<;>(rw [cell_of_row _ _ _ _ _ _ h.head,Ud,oM e E (by decide)];rfl)
theorem Ek.at (h:Ek w e E) {i:Nat} (hi:i<16):w.cell? ⟨e.q,4+i*7,none⟩= some (zI (E.one i).s)/\w.cell? ⟨e.q,4+i*7+1,none⟩= some (zI (E.one i).a)/\w.cell? ⟨e.q,4+i*7+2,none⟩= some (zI (E.one i).n)/\ w.cell? ⟨e.q,4+i*7+3,none⟩= some (zU ((E.one i).gen:Int))/\w.cell? ⟨e.q,4+i*7+4,none⟩= some (.string (Om.B (E.one i).b))/\w.cell? ⟨e.q,4+i*7+5,none⟩= some (e.tv i)/\w.cell? ⟨e.q,4+i*7+6,none⟩= some (.bool (E.one i).inv):=by
 have k:∀j v,(fq (E.one i) (e.tv i))[j]?= some v->w.cell? ⟨e.q,4+i*7+j,none⟩= some v:=λj v hv=>by rw [Nat.mul_comm i 7,cell_of_row _ _ _ _ _ _ h.head,Ud];exact kG hi hv
 exact ⟨k 0 _ rfl,k 1 _ rfl,k 2 _ rfl,k 3 _ rfl,k 4 _ rfl,k 5 _ rfl,k 6 _ rfl⟩
def One.place (x:One) (c:Nat):One×Bool:= if (Tb.find x.t (c:Int)).isSome= true then (x,true) else match Tb.bn x.t with
 | some i=>({x with t:=x.t.set i (c:Int)},true)
 | .none=>({x with inv:=true,t:=vw x.t.length (-1),b:= []},false)
def aq (D:En) (c:Nat):Nat->En
 | 0=>D
 | k+1=>if (D.one k).s= 1/\(D.one k).inv= false then (aq D c k).set k ((D.one k).place c).1 else aq D c k
def En.save (D:En) (c:Nat):En:=aq D c 16
theorem uR (D:En) (c k:Nat):(aq D c k).s.length= D.s.length:=by induction k with
 | zero=>rfl
 | succ k ih =>
 show (if (D.one k).s= 1/\(D.one k).inv= false then (aq D c k).set k _ else aq D c k).s.length= _;split;· exact (List.length_set ..).trans ih
 ·exact ih
theorem uS {D:En} {c:Nat} (hk:k<=D.s.length) (j:Nat):(aq D c k).one j= if j<k/\(D.one j).s= 1/\(D.one j).inv= false then ((D.one j).place c).1 else D.one j:=by induction k with
 | zero=>rw [if_neg (by omega)];rfl
 | succ k b =>
 have b:=b (by omega);show (if (D.one k).s= 1/\(D.one k).inv= false then (aq D c k).set k _ else aq D c k).one j= _;by_cases h:(D.one k).s= 1/\(D.one k).inv= false;·
  rw [if_pos h,En.one_set (by rw [uR];omega)];by_cases e:k= j;· subst e;rw [if_pos rfl,if_pos ⟨by omega,h⟩]
  ·rw [if_neg e,b];by_cases a:j<k/\(D.one j).s= 1/\(D.one j).inv= false;· rw [if_pos a,if_pos ⟨by omega,a.2⟩]
   ·rw [if_neg a,if_neg λc=>a ⟨by omega,c.2⟩]
 ·rw [if_neg h,b];by_cases a:j<k/\(D.one j).s= 1/\(D.one j).inv= false;· rw [if_pos a,if_pos ⟨by omega,a.2⟩]
  ·rw [if_neg a,if_neg λc=>by
   by_cases e:j= k;· subst e;exact h c.2
   ·exact a ⟨by omega,c.2⟩]
theorem uT (D:En) (c k:Nat):(aq D c k).a= D.a/\(aq D c k).n= D.n/\(aq D c k).g= D.g/\(aq D c k).b= D.b:=by induction k with
 | zero=>exact ⟨rfl,rfl,rfl,rfl⟩
 | succ k ih =>
 show (if (D.one k).s= 1/\(D.one k).inv= false then (aq D c k).set k _ else aq D c k).a= _/\(if (D.one k).s= 1/\(D.one k).inv= false then (aq D c k).set k _ else aq D c k).n= _/\(if (D.one k).s= 1/\(D.one k).inv= false then (aq D c k).set k _ else aq D c k).g= _/\(if (D.one k).s= 1/\(D.one k).inv= false then (aq D c k).set k _ else aq D c k).b= _;split;· exact ih
 ·exact ih
theorem Nj (x:One) (c:Nat):(x.place c).1.s= x.s/\(x.place c).1.a= x.a/\(x.place c).1.n= x.n/\(x.place c).1.gen= x.gen:=by
 unfold One.place;split;· exact ⟨rfl,rfl,rfl,rfl⟩
 ·split<;>exact ⟨rfl,rfl,rfl,rfl⟩
def En.dF (D:En) (b:zL):En:={D with b:=b}
def kH (D:En) (x:Em.Pc):Nat:=x.c*D.g+x.f
def En.own (D:En) (c:Nat):Bool:=decide (D.al= 0)|| (Tb.find (D.one (D.al - 1)).t (c:Int)).isNone
def En.piece (D:En) (id:Int) (x:Em.Pc) (d:zL):En×Bool:= if id= 0 then ((if D.own x.c= true then D.save x.c else D).dF (So.splice D.b d (kH D x)),true) else if ((D.one (id - 1).toNat).place x.c).2= true then (D.set (id - 1).toNat {((D.one (id - 1).toNat).place x.c).1 with b:=So.splice (D.one (id - 1).toNat).b d (kH D x)},true) else (D.set (id - 1).toNat ((D.one (id - 1).toNat).place x.c).1,false)
theorem O4 (h:Ek w e E) (id:Int) (k:Nat) (hid:id= (k:Int) +1) (hk:k<16): zF 38 #[zP e.q,zI id] w λr w'=>r= nf (.bool (E.there id))/\zB w w':=by
 obtain ⟨c0, -, -, -, -, -, -⟩:=h.at hk;have d1:decide (id>=1):=by simp;omega
 have d2:decide (id<=16):=by simp;omega
 have hw:IntKind.i64.wrap (id - 1)= (k:Int):=by rw [rr _ (by omega)];omega
 have a:Hid (E.there id= ((E.one k).s != 0)):=hT (by unfold En.there;rw [show (id - 1).toNat= k by omega,decide_eq_true (show 1<=id by omega),decide_eq_true (show id<=16 by omega)];by_cases c:(E.one k).s= 0<;>simp [c]);generalize (E.one k).s= s at c0 a;generalize E.there id= T at a;clear h hid;go_enter func38,ntmps38;go_wp2_with fail;go_ret;exact ⟨by rw [a.out];rfl,G3 _ _⟩
theorem O5 (id:Int) (hid:id<1): zF 38 #[zP e.q,zI id] w λr w'=>r= nf (.bool (E.there id))/\zB w w':=by
 have d1:decide (id>=1)= false:=by simp;omega
 have a:Hid (E.there id= false):=hT (by unfold En.there;rw [decide_eq_false (show¬1<=id by omega)];rfl);generalize E.there id= T at a;clear hid;go_enter func38,ntmps38;go_wp2_with fail;go_ret;exact ⟨by rw [a.out];rfl,G3 _ _⟩
theorem O6 (id:Int) (hid:16<id): zF 38 #[zP e.q,zI id] w λr w'=>r= nf (.bool (E.there id))/\zB w w':=by
 have d1:decide (id>=1):=by simp;omega
 have d2:decide (id<=16)= false:=by simp;omega
 have a:Hid (E.there id= false):=hT (by unfold En.there;rw [decide_eq_false (show¬id<=16 by omega),Bool.and_false];rfl);generalize E.there id= T at a;clear hid;go_enter func38,ntmps38;go_wp2_with fail;go_ret;exact ⟨by rw [a.out];rfl,G3 _ _⟩
theorem mZ (h:Ek w e E) (id:Int): zF 38 #[zP e.q,zI id] w λr w'=>r= nf (.bool (E.there id))/\zB w w':=by
 by_cases h1:id<1;· exact O5 id h1
 ·by_cases a:16<id;· exact O6 id a
  ·exact O4 h id (id - 1).toNat (by omega) (by omega)
theorem O7 (a:eA E k= 0) (h:(E.one k).s≠2):eA E (k+1)= 0:=by unfold eA;rw [if_neg (by omega),if_neg h]
theorem O8 (a:eA E k= 0) (h:(E.one k).s= 2) (n:Nat):eA E (k+1+n)= k+1:=by induction n with
 | zero=>show eA E (k+1)= _;unfold eA;rw [if_neg (by omega),if_pos h]
 | succ n ih => show eA E (k+1+n+1)= _;unfold eA;rw [if_pos (by omega)];exact ih
theorem lK (h:Ek w e E): zF 33 #[zP e.q] w λr w'=>r= nf (zI E.al)/\zB w w':=by
 have t:=hT (λk (hk:k<16)=>(h.at hk).1);have p:Hid (∀k,eA E k= 0->k<16->(E.one k).s= 2->E.al= k+1):=hT λk h0 hk a=>by have:=O8 h0 a (15 - k);rw [show k+1+ (15 - k)= 16 by omega]at this;exact this
 clear h;go_enter func33,ntmps33;go_wp2_with fail;go_loopw [3] (λi wr=>∃j k:Nat,i= zI j/\Hid (j= k+1)/\k<=16/\Hid (w= wr)/\Hid (eA E k= 0)) (λi _=>17 - (Lib.intOf i).toNat);case atStart=>exact ⟨1,0,rfl,hT rfl,Nat.zero_le _,hT rfl,hT rfl⟩
 case round=>
  obtain ⟨j,k,rfl,b,hk,hw,hm⟩:=hrel;have o:=hw.out;subst o;by_cases d:k<16;·
   have d1:decide ((j:Int)<=16):=by have:=b.out;simp;omega
   have m:IntKind.i64.wrap ((j:Int) - 1)= (k:Int):=by have:=b.out;rw [rr _ (by omega)];omega
   have l:IntKind.i64.wrap ((j:Int) +1)= ((j+1:Nat):Int):=by have:=b.out;rw [rr _ (by omega)];rfl
   have c0:=t.out k d;have f:=hT (p.out k hm.out d);have g:=hT (O7 (k:=k) hm.out);generalize (E.one k).s= s at c0 f g;by_cases a:s= 2;·
    have d2:(s == 2):=by simpa using a
    have c:Hid (E.al= j):=hT (by rw [f.out a,b.out]);clear a;go_wp2_with fail;go_ret;exact ⟨by rw [c.out];rfl,G3 _ _⟩
   ·have d2:(s == 2)= false:=by simpa using a
    have n:=hT (g.out a);clear a;go_wp2_with fail;go_roundw;case rel=>exact ⟨j+1,k+1,by go_num,hT (by rw [b.out]),by omega,hT trivial,n⟩
    case measure=>have:=b.out;simp [Lib.intOf];omega
  ·have d1:decide ((j:Int)<=16)= false:=by have:=b.out;simp;omega
   have c:Hid (E.al= 0):=hT (by
    have e:k= 16:=by omega
    have:=hm.out;rw [e]at this;exact this);go_wp2_with fail;go_ret;exact ⟨by rw [c.out];rfl,G3 _ _⟩
end Sn
end
end Go.Proofs.YtchihokmgmchcaaGreat
