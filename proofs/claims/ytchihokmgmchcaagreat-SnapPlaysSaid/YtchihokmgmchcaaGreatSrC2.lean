/- C2, of the proof -/
import Derived.Test.YtchihokmgmchcaaGreatSrC1
import Derived.Test.YtchihokmgmchcaaGreatSrB1
import Derived.Test.YtchihokmgmchcaaGreatSq0K
import Derived.RangeFuncNested
import Derived.RangeFuncBound
import Derived.Shelf.RegionOpen
import Derived.OwnWalkIn
import Derived.LoopNIn
import Derived.LoopIn
set_option linter.unusedVariables false
set_option maxRecDepth 100000
set_option maxHeartbeats 4000000
namespace Go.Proofs.YtchihokmgmchcaaGreat
open Go.Proofs.Tryz
open Go.Oper renaming semAt_some->Ue
open Go.Value renaming oneCell'->Uz,ownBlock->TS,pointer->xb,slice->AF
open Nat renaming div_le_self->UI,le_refl->nm,le_trans->A6,lt_of_lt_of_le->ti,mod_lt->Tu,zero_le->yb
open _root_.Array renaming getElem?_eq_some_iff->DN,replicate_succ->U5,replicate_zero->U6
open Go.World renaming cell?_of_block->TZ,news_of_block->Ul,ownsRow_nil->Ts
open Go.Result renaming andThen->Ty
open Go.Obj renaming cells->hV
open Go.RowKit.Below renaming heap_alloc->PC
open Go.Lib renaming hid->hT
open Int renaming natCast_mul->VL,toNat_natCast->GH
open Go.IntKind renaming i64->lg
open Go.IntWalk renaming i64_in->rr
open Go.Ending renaming returned->nf
open Go.Fence renaming wide->TT
open List renaming append_toArray->U8,cons_append->TN,length_append->DC,length_cons->Tl,length_nil->Un,length_singleton->T3,nil_append->TJ,push_toArray->U7,size_toArray->Uh
open Go.RowKit renaming intOf->CS
open Go.Boxed renaming new->UE
open Go.Act renaming eval->SB
section
namespace Geo
open Go.RowKit Go.Shelf
attribute [local go_sem] Ue
def dg (p:Nat) (w:World):Option Nat:=(w.cell? (zD p 0)).bind TS
structure Kp (p:Nat) (a b:World):Prop where
 size:a.heap.size<=b.heap.size
 same:∀(k:Nat) (o:Obj),a.heap[k]?= some o->o.isCells= true->k≠p->dg p a≠some k->b.heap[k]?= some o
 row:∀r,dg p b= some r->dg p a= some r\/a.heap.size<=r
 high:(∀r,dg p a= some r->r<a.heap.size)->∀r,dg p b= some r->r<b.heap.size
variable{p:Nat}
theorem Kp.trans {a b c:World} (h:Kp p a b) (k:Kp p b c):Kp p a c:=by
 refine ⟨A6 h.size k.size,λi o hi hc hp ho=>?_,λr hr=>?_,λH r hr=>k.high (h.high H) r hr⟩;·
  refine k.same i o (h.same i o hi hc hp ho) hc hp λe=>?_;rcases h.row i e with e'|e';· exact ho e'
  ·have:=(DN.1 hi).1;omega
 ·rcases k.row r hr with e|e;· exact h.row r e
  ·exact .inr (A6 h.size e)
theorem oB {a b:World} (h:b.heap[p]?= a.heap[p]?):dg p b= dg p a:=by unfold dg;rw [TZ (a:=(zD p 0)) h]
theorem Kp.grown {a b:World} {row:Option Nat} (h:a.grownBy b row) (hp:p<a.heap.size) (d:∀r,row= some r->r≠p/\∀o,a.heap[r]?= some o->o.isCells= false):Kp p a b:=by have c:=oB (h.block p hp λe=>(d p e.symm).1 rfl);refine ⟨h.size,λk o hk hc hkp ho=>?_,λr e=> .inl (c▸e),λH r e=>ti (H r (c▸e)) h.size⟩;refine (h.block k (DN.1 hk).1 λe=>?_).trans hk;rw [(d k e.symm).2 o hk]at hc;cases hc
variable{w:World}
theorem uw (hp:p<w.heap.size) (W:World) (l:Nat) (o o':Obj) (b:w.heap.size<=l) (h:W.heap[l]?= some o) (a:o.isCells= false) (_:o.isWalk= false):Kp p W (W.putObj l o'):= Kp.grown (grownBy_putObj' W l o') (by have:=(DN.1 h).1;omega) λr e=>by cases e;exact ⟨by omega,λo2 h2=>by rw [h]at h2;cases h2;exact a⟩
theorem KQ (w:World):w.grownBy w.drew none:=⟨rfl,rfl,rfl,nm _,λ_ _ _=>rfl⟩
variable{n:Nat}
theorem zv {F:Fence} {P:Program} (w:World) {ops:Array Oper} {rest:List Oper} {o:Oper} {a:Act} {Q:Exit->Act->World->Prop} (B:o.guard= none) (s x:Operand) (t:TypeId) (b:o.op= Op.call {callee:=Callee.builtin Builtin.append,args:=#[s,x],argTypes:=#[t,t]}) (e:TypeId) (i:TypeInfo) (z:Value) (size bytes:Nat) (h1:P.underlying t= some (.slice e)) (L:P.info? e= some i) (J:i.zero= some z) (I:i.size= size) (H:i.bytes= bytes) (G:z.cells.size= size) (E:0<size) (v:Value) (k:Nat) (xs:List Value) (y:a.eval s= v) (f:w.ownsRow 0 e size v k xs) (ad:Addr) (m c:Nat) (news:List Value) (r:a.eval x= AF (some ad) m c) (A:news.length= m*size) (C:∀j u,news[j]?= some u->w.cell? (ad.add j)= some u) (h:∀u∈news,u.oneCell') (b1:k+m<=maxLen) (b2:(k+m) *bytes<=140737488355328) (D:∀v' w',w'.ownsRow 0 e size v' (k+m) (xs ++ news)->w.grownBy w' v.ownBlock->(v'.ownBlock= v.ownBlock\/v'.ownBlock= some w.heap.size)->wpListIn F n P ops Q rest (a.put o.dst v') w'): wpListIn F n P ops Q (o :: rest) a w:=by
 refine wpListIn_plain B λK hK'=>?_;obtain ⟨v',w',d,q,p,l⟩:=ae.xU (P:=P) w t o.type e i z size bytes h1 L J I H G E v k xs f ad m c news A C h b1 b2;unfold Oper.wpIn;refine ⟨?_,?_⟩;· simp [Oper.about,b,resolve,Target.leads,Sem.run_pure]
 ·rw [Oper.semAt_plain F _ _ (by rw [b];intro c g;cases g)];simp [execOp,b,resolve,invoke,builtin,y,r,d,Ty];exact hK' _ _ (D v' w' q p l)
variable{base size:Nat}{e:TypeId}{v:Value}{xs:List Value}
theorem qL (h:w.ownsRow base e size v n xs):w.ownsRow 0 e size v n xs:=by
 refine ⟨h.1,?_⟩;rcases h.2 with b|⟨g,cap,cur,a,c,r⟩;· exact .inl b
 ·exact .inr ⟨g,cap,cur,a,yb _,r⟩
theorem zw (h:w.ownsRow 0 e size v n xs) (b:∀r,v.ownBlock= some r->base<=r):w.ownsRow base e size v n xs:=by
 refine ⟨h.1,?_⟩;rcases h.2 with c|⟨g,cap,cur,a,d,r⟩;· exact .inl c
 ·exact .inr ⟨g,cap,cur,a,b g (by rw [a];rfl),r⟩
theorem lC (h:w.ownsRow base e size v n xs) (r:Nat) (a:v.ownBlock= some r):base<=r/\∃cur,w.heap[r]?= some (hV cur e (0,0)):=by
 rcases h.2 with ⟨rfl,_⟩|⟨g,cap,cur,rfl,c,b,_⟩;· simp [TS]at a
 ·simp [TS]at a;subst a;exact ⟨c,cur,b⟩
theorem zx {W w1:World} {n₀ B:Nat} {t:TypeId} {v':Value} {k m:Nat} {ys:List Value} {tmp:Obj} (q:Boxed W B t v) (i:t≠e) (c:W.ownsRow n₀ e size v k xs) (j:n₀<=W.heap.size) (w:n₀<=B) (b:w1.ownsRow 0 e size v' m ys) (a:(W.alloc tmp).grownBy w1 v.ownBlock) (f:v'.ownBlock= v.ownBlock\/v'.ownBlock= some (W.heap.size+1)): Boxed w1 B t v/\Boxed (w1.setCell ⟨B,0,none⟩ v') B t v'/\(w1.setCell ⟨B,0,none⟩ v').ownsRow n₀ e size v' m ys/\KeepsOthers W (w1.setCell ⟨B,0,none⟩ v')/\Below n₀ W (w1.setCell ⟨B,0,none⟩ v')/\Kp B W (w1.setCell ⟨B,0,none⟩ v'):=by
 have u:=zw b λr hr=>by
  rcases f with h|h;· rw [h]at hr;exact (lC c r hr).1
  ·rw [h]at hr;cases hr;omega
 obtain ⟨a1,a2,a3,y,x⟩:=q.appended i c j w u a;have p:dg B W= v.ownBlock:=by unfold dg;rw [q.cell];rfl
 have n:dg B (w1.setCell ⟨B,0,none⟩ v')= v'.ownBlock:=by unfold dg;rw [a2.cell];rfl
 have s:=a.size;have z:(W.alloc tmp).heap.size= W.heap.size+1:=by simp
 have g:(w1.setCell ⟨B,0,none⟩ v').heap.size= w1.heap.size:=by simp [World.setCell]
 refine ⟨a1,a2,a3,y,x,⟨by omega,λk o hk hc hp hr=>?_,λr hr=>?_,λ_ r hr=>?_⟩⟩;· rw [p]at hr;have l:=(DN.1 hk).1;rw [Below.heap_setCell _ _ _ _ hp,a.block k (by omega) (λe=>hr e.symm),PC _ _ _ l];exact hk
 ·rw [n]at hr;rw [p];rcases f with h|h;· exact .inl (h▸hr)
  ·rw [h]at hr;cases hr;exact .inr (by omega)
 ·rw [n]at hr;obtain ⟨_,cur,d⟩:=lC b r hr;rw [g];exact (DN.1 d).1
end Geo
end
section
namespace Geo
open Go.RowKit
theorem Lf (o c:Int) (w:World) (b:Em.aM o c= false):zF 135 #[zM o c] w (zJ (zI 0) w):=by have C:=λw1=>hT (kP o c w1);rw [b]at C;have d:Hid (zB w (w.alloc (zE o c 103))):=zA;clear b;go_enter func135,ntmps135;go_wp2_with fail;refine zg (C _).out λw1 hb=>?_;have a:=zT d hb;clear hb;go_wp2_with fail;go_ret;exact ⟨rfl,a.out⟩
theorem Lg (o c:Nat) (w:World) (b:Em.aM o c):zF 135 #[zM o c] w (zJ (zI (Em.parts o c:Nat)) w):=by have C:=λw1=>hT (kP o c w1);rw [b]at C;obtain ⟨h1,g,f,e⟩:=(Em.cM _ _).1 b;have D:=λw1=>hT (vN o c w1 (by omega) (by omega) (by omega));have h:Hid (zB w (w.alloc (zE o c 103))):=zA;have a:=kO w (o:Int) (c:Int);clear b h1 g f e;go_enter func135,ntmps135;go_wp2_with fail;refine zg (C _).out λw1 hb=>?_;have c0:=(hb.cell (p:=(zz w 0)) (by simp)).trans a.1;have c1:=(hb.cell (p:=(zz w 1)) (by simp)).trans a.2;have d:=zT h hb;clear hb a;go_wp2_with fail;refine zh (D _).out ?_;go_wp2_with fail;go_ret;exact ⟨rfl,d.out⟩
theorem Lh (o c n:Int) (w:World) (a:refuse o c n 1 1048576≠0):zF 110 #[zM o c,zI n] w λe w'=>e= zV (zI 0) (zI (refuse o c n 1 1048576))/\zB w w':=by
 have C:=λw1=>hT (jv o c n 1 1048576 w1);obtain ⟨e,d⟩:=eX1 (refuse o c n 1 1048576);rw [<-d]at a C⊢;have f:Hid (zB w (w.alloc (zE o c 103))):=zA;have hd:(e != 0):=by simpa using a
 clear a d;go_enter func110,ntmps110;go_wp2_with fail;refine zg (C _).out λw1 hb=>?_;have b:=zT f hb;clear hb;go_wp2_with fail;go_ret2;exact ⟨rfl,b.out⟩
theorem Li (o c n:Nat) (w:World) (g:Em.aM o c) (k:1<=n) (b:n<=1048576):zF 110 #[zM o c,zI n] w λe w'=>e= zV (zI (Em.size c n:Nat)) (zI 0)/\zB w w':=by
 have C:=λw1=>hT (jv o c n 1 1048576 w1);rw [jY g (by omega) (by omega)]at C;have D:=λw1=>ph o c n w1 g (by omega);obtain ⟨p,hp⟩:=eX1 (Em.parts n 13);have i:=C8 b;obtain ⟨h1,t,s,r⟩:=(Em.cM _ _).1 g;obtain ⟨m,hm⟩:=eX1 (n*c);have l:m<=134217728:=by have:n*c<=1048576*128:=Nat.mul_le_mul b (by omega);omega
 have h:Em.size c n= 1+p+m:=by unfold Em.size;rw [hp,hm]
 have q:(n:Int) * (c:Int)= (m:Int):=by rw [hm];exact (VL n c).symm
 rw [h];rw [<-hp]at D i;have y:=hT D;have x:Hid (zB w (w.alloc (zE o c 103))):=zA;have a:=kO w (o:Int) (c:Int);clear g h1 t s r h hm hp D;go_enter func110,ntmps110;go_wp2_with fail;refine zg (C _).out λw1 hb=>?_;have c0:=(hb.cell (p:=(zz w 0)) (by simp)).trans a.1;have c1:=(hb.cell (p:=(zz w 1)) (by simp)).trans a.2;have d:w.heap.size<w1.heap.size:=by have:=hb.size;simp at this;omega
 have f:=zT x hb;clear hb a;go_wp2_with fail;go_region_held3 (λw'=>w'.cell? (zz w 0)= some (zI o)/\w'.cell? (zz w 1)= some (zI c)) (first|go_keep|(refine ⟨?_,?_⟩<;>assumption)|(exact ⟨(j.out.cell (p:=(zz w 0)) d).trans c0,(j.out.cell (p:=(zz w 1)) d).trans c1⟩)) (first|(go_at_call 161;refine zg (y.out _) λw2 hb2=>?_;have j:Hid (zB w1 w2):=zR.drew.trans hb2;clear hb2));go_wp2_with fail;go_ret2;have h:lg.wrap (1+ (p:Int))= 1+ (p:Int):=rr _ (by omega);have v:lg.wrap (m:Int)= (m:Int):=rr _ (by omega);have u:lg.wrap (1+ (p:Int) + (m:Int))= 1+ (p:Int) + (m:Int):=rr _ (by omega);exact ⟨by simp [h,v,u],f.out.trans (j.out.mono f.out.size)⟩
theorem Ah (o c:Int) (w:World):zF 135 #[zM o c] w (zJ (zI (if Em.aM o c= true then (Em.parts o.toNat c.toNat:Nat) else 0)) w):=by cases hr:Em.aM o c with
 | false=>rw [if_neg (by decide)];exact Lf o c w hr
 | true => obtain ⟨a,b,rfl,rfl,_⟩:=Em.rV hr;rw [if_pos rfl,GH,GH];exact Lg a b w hr
def many (o c:Int):Int:=if Em.aM o c= true then (Em.parts o.toNat c.toNat:Nat) else 0
theorem Ai (o c:Int):0<=many o c/\many o c<=1048576:=by
 unfold many;by_cases h:Em.aM o c= true;· rw [if_pos h];obtain ⟨a,b,rfl,rfl,h1,d,_⟩:=Em.rV h;have:=Em.iw a b;rw [GH,GH];omega
 ·rw [if_neg h];omega
theorem oE {o c:Nat} (h:Em.aM o c):many o c= (Em.parts o c:Nat):=by unfold many;rw [if_pos h];rfl
theorem uA {fn:Func} {p u:Tmp} (h:fn.results= #[.cell p 65, .tmp u]) (tmps:Array Value) (w:World) (g:Nat) (x y v:Value) (hp:tmps.getD p undef= zP g) (hu:tmps.getD u undef= v) (a:w.heap[g]?= some (hV #[x,y] 65 (0,0))): (results fn tmps).run prog w= .ok (.tuple #[.agg #[x,y],v]) w:=by
 have hi:(prog.info? 65).map (·.size)= some (#[x,y]:Array Value).size:=by show _= some 2;kernel_rfl
 rw [results_cell_tmp h,hp,hu];simp [asAddr,run_loadVar_row w g 65 65 #[x,y] (0,0) _ a underlying65 rfl hi,Ty]
theorem uB {w:World} {g:Nat} {a b:Value} {t:TypeId} (h:w.heap[g]?= some (hV #[a,b] t (0,0))) (x y:Value):((w.setCell ⟨g,0,none⟩ x).setCell ⟨g,1,none⟩ y).heap[g]?= some (hV #[x,y] t (0,0)):=by rw [heap_setCell_same _ _ _ _ _ _ (heap_setCell_same _ _ _ _ _ _ h)];rfl
theorem Aj (w:World) (o c:Int) (W0:World) (h:(w.alloc (zE o c 103)).alloc (zE 0 0 65)= W0): zB w W0/\W0.heap.size= w.heap.size+2/\W0.cell? (zz w 0)= some (zI o)/\W0.cell? (zz w 1)= some (zI c)/\ W0.heap[w.heap.size+1]?= some (hV #[zI 0,zI 0] 65 (0,0)):=by subst h;have a:=kO w o c;have hk:Below (w.heap.size+1) (w.alloc (zE o c 103)) ((w.alloc (zE o c 103)).alloc (zE 0 0 65)):=zR.alloc (by simp) _;refine ⟨(zA).alloc (by simp) _,by simp,(hk.cell (p:=(zz w 0)) (by simp)).trans a.1,(hk.cell (p:=(zz w 1)) (by simp)).trans a.2,?_⟩;have:=heap_alloc_new (w.alloc (zE o c 103)) (zE 0 0 65);simpa using this
theorem Lj (o c k:Int) (w:World) (h:refuse o c k 0 (many o c - 1)≠0):zF 73 #[zM o c,zI k] w λe w'=>e= zV (zM 0 0) (zI (refuse o c k 0 (many o c - 1)))/\zB w w':=by
 have C:=hT (λw1=>jv o c k 0 (many o c - 1) w1);have hm:=Ai o c;obtain ⟨m,b⟩:=eX1 (many o c);have D:Hid (∀w1:World,zF 135 #[zM o c] w1 λe w'=>e= nf (zI m)/\zB w1 w'):=λw1=>by rw [b];exact Ah o c w1
 rw [<-b]at hm h C⊢;obtain ⟨e,q⟩:=eX1 (refuse o c k 0 (m - 1));rw [<-q]at h C⊢;have hd:(e != 0):=by simpa using h
 obtain ⟨i,g⟩:=eX2 ((w.alloc (zE o c 103)).alloc (zE 0 0 65));obtain ⟨r,t,d0,d1,n⟩:=Aj w o c i g;have s:=hT r;have f:w.heap.size<i.heap.size:=by omega
 have v:lg.wrap (m - 1)= m - 1:=rr _ (by omega);clear h q b r;go_enter func73,ntmps73;go_wp2_with fail;clear g;go_region_held3 (λw'=>w'.cell? (zz w 0)= some (zI o)/\w'.cell? (zz w 1)= some (zI c)) (first|go_keep|(refine ⟨?_,?_⟩<;>assumption)|(exact ⟨(d.out.cell (p:=(zz w 0)) f).trans d0,(d.out.cell (p:=(zz w 1)) f).trans d1⟩)) (first|(go_at_call 135;refine zg (D.out _) λw1 hb1=>?_;have d:Hid (zB i w1):=zR.drew.trans hb1;have y:=d;clear hb1)|(go_at_call 117;refine zg (C.out _) λw2 hb2=>?_;have d:Hid (zB i w2):=zH y hb2;clear hb2));have a:=(d.out.block (w.heap.size+1) (by omega)).trans n;have l:=hT (s.out.trans (d.out.mono s.out.size));have x:=hT a;have B:w2.cell? (zD (w.heap.size+1) 0)= some (zI 0):=zW a;have A:w2.cell? (zD (w.heap.size+1) 1)= some (zI 0):=zW a;have z:=λj=>frozen_of_row (j:=j) _ _ _ _ a;clear n a;go_wp2_with fail;refine bodyPost_ret (uA (p:=4) (u:=5) rfl _ _ (w.heap.size+1) _ _ _ rfl rfl (uB x.out _ _)) rfl ⟨rfl,?_⟩;exact (l.out.setCell (p:=(zD (w.heap.size+1) 0)) (by simp) _).setCell (p:=(zD (w.heap.size+1) 1)) (by simp) _
theorem Ll (o c k:Nat) (w:World) (t:Em.aM o c) (hk:k<Em.parts o c):zF 73 #[zM o c,zI k] w λe w'=>e= zV (zM ((k*c:Nat):Int) ((min c (o - k*c):Nat):Int)) (zI 0)/\zB w w':=by
 have hm:=Ai o c;have x:=oE t;have C:=hT (λw1=>jv o c k 0 (many o c - 1) w1);rw [jY t (by omega) (by omega)]at C;obtain ⟨h1,N,M,L⟩:=(Em.cM _ _).1 t;have I:=(Em.kL (by omega:0<c)).1 hk;obtain ⟨s,f⟩:=eX1 (k*c);have J:(k:Int) * (c:Int)= (s:Int):=by rw [f];exact (VL k c).symm
 rw [<-f]at I⊢;obtain ⟨m,g⟩:=eX1 (many o c);have D:Hid (∀w1:World,zF 135 #[zM o c] w1 λe w'=>e= nf (zI m)/\zB w1 w'):=λw1=>by rw [g];exact Ah o c w1
 rw [<-g]at hm C;obtain ⟨l,h⟩:=eX2 ((w.alloc (zE o c 103)).alloc (zE 0 0 65));obtain ⟨B,H,d0,d1,r⟩:=Aj w o c l h;have v:=hT B;have d:w.heap.size<l.heap.size:=by omega
 have n:lg.wrap (m - 1)= m - 1:=rr _ (by omega);clear t g B x f hk;by_cases K:c<=o - s;·
  have q:((min c (o - s):Nat):Int)= (c:Int):=by omega
  have E1:=hT q;clear q;have y:(c:Int)<=(o:Int) - (s:Int):=by omega
  go_enter func73,ntmps73;go_wp2_with fail;clear h;go_region_held3 (λw'=>w'.cell? (zz w 0)= some (zI o)/\w'.cell? (zz w 1)= some (zI c)) (first|go_keep|(refine ⟨?_,?_⟩<;>assumption)|(exact ⟨(b.out.cell (p:=(zz w 0)) d).trans d0,(b.out.cell (p:=(zz w 1)) d).trans d1⟩)) (first|(go_at_call 135;refine zg (D.out _) λw1 hb1=>?_;have b:Hid (zB l w1):=zR.drew.trans hb1;have A:=b;clear hb1)|(go_at_call 117;refine zg (C.out _) λw2 hb2=>?_;have b:Hid (zB l w2):=zH A hb2;clear hb2));have a:=(b.out.block (w.heap.size+1) (by omega)).trans r;have i:=hT (v.out.trans (b.out.mono v.out.size));have z:=hT a;have G:w2.cell? (zD (w.heap.size+1) 0)= some (zI 0):=zW a;have F:w2.cell? (zD (w.heap.size+1) 1)= some (zI 0):=zW a;have E:=λj=>frozen_of_row (j:=j) _ _ _ _ a;clear r a d0 d1 n;go_wp2_with fail;refine bodyPost_ret (uA (p:=4) (u:=5) rfl _ _ (w.heap.size+1) _ _ _ rfl rfl (uB z.out _ _)) rfl ⟨by rw [E1.out];rfl,?_⟩;exact (i.out.setCell (p:=(zD (w.heap.size+1) 0)) (by simp) _).setCell (p:=(zD (w.heap.size+1) 1)) (by simp) _
 ·have q:((min c (o - s):Nat):Int)= (o:Int) - (s:Int):=by omega
  have E1:=hT q;clear q;have y:(o:Int) - (s:Int) < (c:Int):=by omega
  go_enter func73,ntmps73;go_wp2_with fail;clear h;go_region_held3 (λw'=>w'.cell? (zz w 0)= some (zI o)/\w'.cell? (zz w 1)= some (zI c)) (first|go_keep|(refine ⟨?_,?_⟩<;>assumption)|(exact ⟨(b.out.cell (p:=(zz w 0)) d).trans d0,(b.out.cell (p:=(zz w 1)) d).trans d1⟩)) (first|(go_at_call 135;refine zg (D.out _) λw1 hb1=>?_;have b:Hid (zB l w1):=zR.drew.trans hb1;have A:=b;clear hb1)|(go_at_call 117;refine zg (C.out _) λw2 hb2=>?_;have b:Hid (zB l w2):=zH A hb2;clear hb2));have a:=(b.out.block (w.heap.size+1) (by omega)).trans r;have i:=hT (v.out.trans (b.out.mono v.out.size));have z:=hT a;have G:w2.cell? (zD (w.heap.size+1) 0)= some (zI 0):=zW a;have F:w2.cell? (zD (w.heap.size+1) 1)= some (zI 0):=zW a;have E:=λj=>frozen_of_row (j:=j) _ _ _ _ a;clear r a d0 d1 n;go_wp2_with fail;refine bodyPost_ret (uA (p:=4) (u:=5) rfl _ _ (w.heap.size+1) _ _ _ rfl rfl (uB z.out _ _)) rfl ⟨by rw [E1.out];rfl,?_⟩;exact (i.out.setCell (p:=(zD (w.heap.size+1) 0)) (by simp) _).setCell (p:=(zD (w.heap.size+1) 1)) (by simp) _
end Geo
end
section
namespace Geo
open Go.RowKit Go.Shelf
attribute [local go_sem] Ue
theorem Mo (o c a m:Int) (w:World):zF 118 #[zM o c,zI a,zI m] w λe w'=> e= nf (.func (.func 163) #[] #[zP (w.heap.size+1), xb (some ⟨w.heap.size+1+1,0,none⟩),zP w.heap.size])/\ w'= ((w.alloc (zE o c 103)).alloc (hV #[zI a] 3)).alloc (hV #[zI m] 3):=by go_enter func118,ntmps118;go_wp2;go_ret;exact ⟨rfl,rfl⟩
def uJ (x:Em.Pc):Array Value:=#[zO x.c x.f x.n]
structure cz (J:List Em.Pc->World->Prop) (p n₁ bg:Nat) (o:Int) (c a m:Nat) (pre:List Em.Pc) (next:Nat) (w:World):Prop where
 lo:a<=next
 hi:next<=a+m
 all:Em.split c a m= pre ++ Em.cut c (a+m - next) next (a+m)
 j:J pre w
 size:n₁<=w.heap.size
 own:∀r,dg p w= some r->n₁<=r/\r<w.heap.size
 g:w.heap[bg]?= some (hV #[zI o,zI c] 103 (0,0))
variable{J:List Em.Pc→World→Prop}{o:Int}{pre:List Em.Pc}{next:Nat}{w:World}
theorem cz.drew {p n₁ bg:Nat} {c a m:Nat} (h:cz J p n₁ bg o c a m pre next w) {B0:Nat} (b:AbidesFrom B0 J):cz J p n₁ bg o c a m pre next w.drew:= ⟨h.lo,h.hi,h.all,b _ _ _ none h.j (KQ w) (λr e=>by cases e),h.size,h.own,h.g⟩
def kF (w:World) (x:Em.Pc):World:=(w.alloc (zK x.c x.f x.n 107)).drew
theorem Mp (w:World) (x:Em.Pc):w.grownBy (kF w x) none:=⟨rfl,rfl,rfl,by show _<=(w.alloc _).heap.size;simp,λk hk _=>PC _ _ _ hk⟩
theorem Mq (w:World) (x:Em.Pc):(kF w x).heap[w.heap.size]?= some (hV #[zI x.c,zI x.f,zI x.n] 107 (0,0)):=heap_alloc_new _ _
theorem cz.head {p n₁ bg:Nat} {c a m:Nat} (h:cz J p n₁ bg o c a m pre next w) (d:1<=c) (b:next<a+m): Em.split c a m= pre ++ ⟨next / c,next % c,min (c - next % c) (a+m - next)⟩ :: Em.cut c (a+m - (next+min (c - next % c) (a+m - next))) (next+min (c - next % c) (a+m - next)) (a+m):=by
 have hm:=Tu next (show 0<c by omega);rw [h.all];obtain ⟨k,hk⟩:∃k,a+m - next= k+1:=⟨a+m - next - 1,by omega⟩;rw [hk];have e:Em.cut c (k+1) next (a+m)= ⟨next / c,next % c,min (c - next % c) (a+m - next)⟩ :: Em.cut c k (next+min (c - next % c) (a+m - next)) (a+m):=by rw [show Em.cut c (k+1) next (a+m)= if next<a+m then ⟨next / c,next % c,min (c - next % c) (a+m - next)⟩ :: Em.cut c k (next+min (c - next % c) (a+m - next)) (a+m) else []from rfl,if_pos b]
 rw [e,hk,Em.CU (show 0<c by omega) k (a+m - (next+min (c - next % c) (k+1))) _ _ (by omega) (by omega)]
theorem cz.ask {p n₁ bg:Nat} {c a m:Nat} (h:cz J p n₁ bg o c a m pre next w) {B0:Nat} (f:AbidesFrom B0 J) (d:1<=c) (b:next<a+m) (x:Em.Pc):J pre (kF w x)/\pre.length< (Em.split c a m).length:= ⟨f _ _ _ none h.j (Mp w x) (λr e=>by cases e),by rw [h.head d b];simp⟩
theorem cz.step {p n₁ bg:Nat} {c a m:Nat} {w3:World} (h:cz J p n₁ bg o c a m pre next w) (y:1<=c) (j:next<a+m) (t:p<n₁) (v:bg<n₁) (k:bg≠p) (x:Em.Pc) (q:x.c= next / c) (l:x.f= next % c) (i:x.n= min (c - next % c) (a+m - next)) (u:J (pre ++ [x]) w3) (hk:Kp p (kF w x) w3): cz J p n₁ bg o c a m (pre ++ [x]) (next+x.n) w3/\w3.heap[w.heap.size]?= some (hV #[zI x.c,zI x.f,zI x.n] 107 (0,0)):=by
 have hm:=Tu next (show 0<c by omega);have s:w.heap.size+1= (kF w x).heap.size:=by show _= (w.alloc _).heap.size;simp
 have b:dg p (kF w x)= dg p w:=oB (PC _ _ _ (by have:=h.size;omega));refine ⟨⟨by have:=h.lo;omega,by omega,?_,u,by have:=hk.size;have:=h.size;omega,?_,?_⟩,?_⟩;·
  rw [h.head y j,i];have:x= ⟨next / c,next % c,min (c - next % c) (a+m - next)⟩:=by cases x;simp_all
  rw [<-this];simp
 ·intro r d;refine ⟨?_,hk.high (λr d=>by rw [b]at d;have:=(h.own r d).2;omega) r d⟩;rcases hk.row r d with e|e;· rw [b]at e;exact (h.own r e).1
  ·have:=h.size;omega
 ·exact hk.same bg _ ((PC _ _ _ (by have:=h.size;omega)).trans h.g) rfl k λe=>by rw [b]at e;have:=(h.own bg e).1;omega
 ·exact hk.same w.heap.size _ (Mq w x) rfl (by have:=h.size;omega) λe=>by rw [b]at e;have:=(h.own _ e).2;omega
theorem cz.stop {p n₁ bg:Nat} {c a m:Nat} (h:cz J p n₁ bg o c a m pre next w) (b:¬next<a+m):pre= Em.split c a m:=by
 have e:next= a+m:=by have:=h.hi;omega
 subst e;rw [h.all,Em.nj,List.append_nil]
theorem Mr (n:Nat) (hn:1<=n) (l p n₁ ba bm bg:Nat) (c a m:Nat) (s:1<=c) (bf:c<=128) (bl:a+m<=1048576) (J Jx:List Em.Pc->World->Prop) (B0:Nat) (Z:AbidesFrom B0 J) (Y:∀pre x W,J pre W->pre.length< (Em.split c a m).length->YieldAt TT (n - 1) prog l (uJ x) W λe W'=> (e= nf (.bool true)/\J (pre ++ [x]) W'/\Kp p W W')\/(e= nf (.bool false)/\Jx (pre ++ [x]) W')) (W:World) (P:n₁<=W.heap.size) (K:p<n₁) (F:bg<n₁) (M:bg≠p) (E:∀r,dg p W= some r->n₁<=r/\r<W.heap.size) (ca:W.cell? (zD ba 0)= some (zI a)) (cm:W.cell? (zD bm 0)= some (zI m)) (o:Int) (cg:W.heap[bg]?= some (hV #[zI o,zI c] 103 (0,0))) (h0:J [] W): CallsIn TT n prog 163 #[.func (.yield l) #[] #[],zP ba,zP bm,zP bg] W λe W'=>(∃v,e= nf v)/\ ((∃ys,ys= Em.split c a m/\J ys W')\/(∃pre,pre <+:Em.split c a m/\Jx pre W')):=by
 refine callsIn_of_wp func163 rfl trivial ?_ rfl;simp only [ntmps163,Uh,Tl,Un,Nat.reduceAdd,Nat.reduceSub,U5,U6,U7,U8,TJ,TN];have H0:Hid (cz J p n₁ bg o c a m [] a W):=⟨nm _,by omega,by rw [show a+m - a= m by omega];rfl,h0,P,E,cg⟩;have V:=hT Z;have HY:=hT Y;clear Z Y h0 cg E;gi_wp2;gi_big_region;gi_wp2;gi_loopw [5] (λv wr=>∃(pre:List Em.Pc) (next:Nat),v= zI next/\Hid (cz J p n₁ bg o c a m pre next wr)) (λv _=>a+m - (CS v).toNat);case atStart=>exact ⟨[],a,rfl,hT (H0.out.drew V.out)⟩
 case round=>
  obtain ⟨pre,next,rfl,b⟩:=hrel;have af:=b.out.lo;have ao:=b.out.hi;by_cases h:next<a+m;·
   have hd:decide ((next:Int) < (a:Int) + (m:Int)):=by simp;omega
   obtain ⟨q,D⟩:=eX1 (next / c);obtain ⟨f,t⟩:=eX1 (next % c);have ab:q<=next:=by rw [D];exact UI _ _
   have aw:f<c:=by rw [t];exact Tu _ (by omega)
   have ad:(next:Int) / (c:Int)= (q:Int):=by rw [D];simp
   have bb:(next:Int) % (c:Int)= (f:Int):=by rw [t];simp
   have bq:wr.cell? (zD bg 1)= some (zI c):=zW b.out.g;have S:=ti F b.out.size;have bo:((wr.alloc (zK 0 0 0 107)).drew).cell? (zD bg 1)= some (zI c):=by rw [cell_of_row _ _ _ _ _ _ (show (wr.alloc (zK 0 0 0 107)).drew.heap[bg]?= _ from (PC _ _ _ S).trans b.out.g)];rfl
   by_cases X:c - f<=a+m - next;·
    obtain ⟨k,hk⟩:=eX1 (c - f);have i:k= min (c - next % c) (a+m - next):=by rw [<-t];omega
    have R:(c:Int) - (f:Int)= (k:Int):=by omega
    have Q:(k:Int)<=(a:Int) + (m:Int) - (next:Int):=by omega
    obtain ⟨z,hlen⟩:=b.out.ask V.out s h ⟨q,f,k⟩;have d:=λC=>b.out.step (w3:=C) s h K F M ⟨q,f,k⟩ D t i;have N:=hT d;have U:Hid (pre ++ [⟨q,f,k⟩] ++ Em.cut c (a+m - (next+min (c - next % c) (a+m - next))) (next+min (c - next % c) (a+m - next)) (a+m)= Em.split c a m):=by refine hT ?_;rw [b.out.head s h,<-t,<-D];simp [i,t]
    obtain ⟨fn,tmps,assign,body,H,T⟩:=HY.out pre ⟨q,f,k⟩ _ z hlen;clear d z hlen i D t hk;unfold kF uJ at H;dsimp only at H;gi_wp2;gi_big_region;gi_wp2;refine T.mono ?_;rintro e C (⟨rfl,B,y⟩|⟨rfl,A⟩);·
     obtain ⟨w,u⟩:=N.out C B y;have O:C.cell? (zz wr 2)= some (zI k):=zW u;have G:=hT w;clear w u y B;gi_wp2;go_roundw;case rel=>exact ⟨pre ++ [⟨q,f,k⟩],next+k,by go_num,G⟩
     case measure=>simp [CS];omega
    ·gi_wp2;refine bodyPost_ret (results_none rfl _ _ _) rfl ?_;exact ⟨⟨_,rfl⟩, .inr ⟨pre ++ [⟨q,f,k⟩],⟨_,U.out⟩,A⟩⟩
   ·obtain ⟨k,hk⟩:=eX1 (a+m - next);have i:k= min (c - next % c) (a+m - next):=by rw [<-t];omega
    have R:(a:Int) + (m:Int) - (next:Int)= (k:Int):=by omega
    have Q:(k:Int) < (c:Int) - (f:Int):=by omega
    obtain ⟨z,hlen⟩:=b.out.ask V.out s h ⟨q,f,k⟩;have d:=λC=>b.out.step (w3:=C) s h K F M ⟨q,f,k⟩ D t i;have N:=hT d;have U:Hid (pre ++ [⟨q,f,k⟩] ++ Em.cut c (a+m - (next+min (c - next % c) (a+m - next))) (next+min (c - next % c) (a+m - next)) (a+m)= Em.split c a m):=by refine hT ?_;rw [b.out.head s h,<-t,<-D];simp [i,t]
    obtain ⟨fn,tmps,assign,body,H,T⟩:=HY.out pre ⟨q,f,k⟩ _ z hlen;clear d z hlen i D t hk;unfold kF uJ at H;dsimp only at H;gi_wp2;gi_big_region;gi_wp2;refine T.mono ?_;rintro e C (⟨rfl,B,y⟩|⟨rfl,A⟩);·
     obtain ⟨w,u⟩:=N.out C B y;have O:C.cell? (zz wr 2)= some (zI k):=zW u;have G:=hT w;clear w u y B;gi_wp2;go_roundw;case rel=>exact ⟨pre ++ [⟨q,f,k⟩],next+k,by go_num,G⟩
     case measure=>simp [CS];omega
    ·gi_wp2;refine bodyPost_ret (results_none rfl _ _ _) rfl ?_;exact ⟨⟨_,rfl⟩, .inr ⟨pre ++ [⟨q,f,k⟩],⟨_,U.out⟩,A⟩⟩
  ·have hd:decide ((next:Int) < (a:Int) + (m:Int))= false:=by simp;omega
   have I:=b.out.stop h;have L:=b.out.j;have N:=hT I;have HD:=hT L;clear I L;gi_wp2;go_end0;exact ⟨⟨_,rfl⟩, .inl ⟨pre,N.out,HD.out⟩⟩
end Geo
end
section
namespace Geo
open Go.RowKit Go.Shelf
attribute [local go_sem] Ue
def cH (l:List Em.Pc):List Value:=l.flatMap λx=> [zI x.c,zI x.f,zI x.n]
theorem mS (l:List Em.Pc):(cH l).length= l.length*3:=by unfold cH;induction l with
 | nil=>rfl
 | cons x l ih=>simp only [List.flatMap_cons,DC,ih,Tl,Un];omega
theorem oI (l:List Em.Pc) (x:Em.Pc):cH (l ++ [x])= cH l ++ [zI x.c,zI x.f,zI x.n]:=by simp [cH]
theorem AK (l:List Em.Pc) (i:Nat) (h:i<l.length):(cH l)[3*i]?= some (zI (l[i].c:Int))/\(cH l)[3*i+1]?= some (zI (l[i].f:Int))/\(cH l)[3*i+2]?= some (zI (l[i].n:Int)):=by induction l generalizing i with
 | nil=>simp at h
 | cons x l ih => have e:cH (x :: l)= zI x.c :: zI x.f :: zI x.n :: cH l:=rfl;rw [e];cases i with
 | zero=>simp
 | succ i => have:=ih i (by simpa using h);rw [show 3* (i+1)= 3*i+1+1+1 by omega];simpa using this
def fK (o c a m:Int):Int:=if refuse o c m 0 o= 0 then refuse o c a 0 (o - m) else refuse o c m 0 o
theorem AM (o c a m:Int) (w:World) (n:o<=9223372036854775807) (hm: -9223372036854775808<=m) (h:fK o c a m≠0):zF 52 #[zM o c,zI a,zI m] w λe w'=>e= zV (AF none 0 0) (zI (fK o c a m))/\zB w w':=by
 have C:=hT (λw1=>jv o c m 0 o w1);have D:=hT (λw1=>jv o c a 0 (o - m) w1);have j:Hid (zB w (w.alloc (zE o c 103))):=zA;have b:=kO w o c;by_cases h1:refuse o c m 0 o= 0;·
  have e:fK o c a m= refuse o c a 0 (o - m):=by unfold fK;rw [if_pos h1]
  rw [e]at h⊢;have g:0<=m/\m<=o:=by
   unfold refuse at h1;split at h1;·
    split at h1;· cases h1
    ·omega
   ·cases h1
  obtain ⟨l,k⟩:=g;rw [h1]at C;obtain ⟨r,f⟩:=eX1 (refuse o c a 0 (o - m));rw [<-f]at h D⊢;have hd:(r != 0):=by simpa using h
  clear h h1 e f;go_enter func52,ntmps52;go_wp2_with fail;refine zg (C.out _) λw1 hb=>?_;have c0:=(hb.cell (p:=(zz w 0)) (by simp)).trans b.1;have c1:=(hb.cell (p:=(zz w 1)) (by simp)).trans b.2;have d:=zT j hb;clear hb b;go_wp2_with fail;refine zg (D.out _) λw2 hb=>?_;have i:=zT d hb;clear hb;go_wp2_with fail;go_ret2;exact ⟨rfl,i.out⟩
 ·have e:fK o c a m= refuse o c m 0 o:=by unfold fK;rw [if_neg h1]
  rw [e]at h⊢;obtain ⟨r,f⟩:=eX1 (refuse o c m 0 o);rw [<-f]at h C⊢;have hd:(r != 0):=by simpa using h
  clear h h1 e f;go_enter func52,ntmps52;go_wp2_with fail;refine zg (C.out _) λw1 hb=>?_;have d:=zT j hb;clear hb b;go_wp2_with fail;go_ret2;exact ⟨rfl,d.out⟩
theorem Mt (w2:World) (n:Nat) (o c a m:Int) (W1 W2:World) (h1:w2.alloc (hV #[AF none 0 0] 100)= W1) (d:((W1.alloc (zE o c 103)).alloc (hV #[zI a] 3)).alloc (hV #[zI m] 3)= W2) (w:World) (hw:zB w w2): Boxed W2 w2.heap.size 100 (AF none 0 0)/\W1.heap.size= w2.heap.size+1/\W2.heap.size= w2.heap.size+4/\W2.cell? (zD (W1.heap.size+1) 0)= some (zI a)/\W2.cell? (zD (W1.heap.size+1+1) 0)= some (zI m)/\ W2.heap[W1.heap.size]?= some (hV #[zI o,zI c] 103 (0,0))/\zB w W2:=by
 have e:W1.heap.size= w2.heap.size+1:=by rw [<-h1];simp
 subst d;have b:=UE w2 100 (AF none 0 0);rw [h1]at b;have b1:=UE (W1.alloc (zE o c 103)) 3 (zI a);have b2:=UE ((W1.alloc (zE o c 103)).alloc (hV #[zI a] 3)) 3 (zI m);simp only [World.size_alloc]at b1 b2;refine ⟨((b.alloc _).alloc _).alloc _,e,by simp;omega,(b1.alloc _).cell,b2.cell,?_,?_⟩;· rw [PC _ _ _ (by simp;omega),PC _ _ _ (by simp)];exact heap_alloc_new _ _
 ·have:=hw.size;rw [<-h1];exact (((hw.alloc hw.size _).alloc (by simp;omega) _).alloc (by simp;omega) _).alloc (by simp;omega) _
theorem Mu (n:Nat) (j:1<=n) (p bg:Nat) (o:Int) (c a m:Nat) (g:1<=c) (e:c<=128) (h:a+m<=1048576) (ba bm:Nat) (w:World) (b:p<w.heap.size) (d:bg≠p) (hp:w.cell? (zD p 0)= some (AF none 0 0)) (k:ba<w.heap.size) (hm:bm<w.heap.size) (ca:w.cell? (zD ba 0)= some (zI a)) (cm:w.cell? (zD bm 0)= some (zI m)) (cg:w.heap[bg]?= some (hV #[zI o,zI c] 103 (0,0))): SeqStopsK TT n prog 163 #[zP ba,zP bm,zP bg] (λx:Em.Pc=>#[Value.agg #[zI x.c,zI x.f,zI x.n]]) (Kp p) (λys=>ys= Em.split c a m) (λpre=>pre <+:Em.split c a m) (Em.split c a m).length w:=λl J Jx W hW hJ _ hY h0=>by
 have i:=(DN.1 cg).1;refine Mr n j l p w.heap.size ba bm bg c a m g e h J Jx W.heap.size hJ hY W hW.size b i d (λr hr=>?_) ((hW.cell (p:=(zD ba 0)) k).trans ca) ((hW.cell (p:=(zD bm 0)) hm).trans cm) o ((hW.block _ i).trans cg) h0;have:dg p W= none:=by unfold dg;rw [hW.cell (p:=(zD p 0)) b,hp];rfl
 rw [this]at hr;cases hr
theorem Mv:(prog.info? 107).map (λi=>(i.zero,i.size,i.bytes))= some (some (zO 0 0 0),3,24):=by kernel_rfl
theorem AO (o c a m:Nat) (w:World) (t:Em.aM o c) (bm:a+m<=o):zF 52 #[zM o c,zI a,zI m] w λe w'=> ∃v,e= zV v (zI 0)/\w'.ownsRow w.heap.size 107 3 v (Em.split c a m).length (cH (Em.split c a m))/\zB w w':=by
 obtain ⟨h1,h2,h3,h4⟩:=(Em.cM _ _).1 t;have C:=hT (λw1=>jv (o:Int) c m 0 o w1);have D:=hT (λw1=>jv (o:Int) c a 0 ((o:Int) - (m:Int)) w1);rw [jY t (by omega) (by omega)]at C;rw [jY t (by omega) (by omega)]at D;obtain ⟨i0,hi,R,Q,O⟩:=info_parts Mv;have HB:Hid (zB w (w.alloc (zE o c 103))):=zA;have y:=kO w (o:Int) (c:Int);have bf:=Em.kM c a m;refine (callsIn_wide (n:=3)).1 ?_;refine callsIn_of_wp_marks func52 rfl trivial ?_ rfl;simp only [ntmps52,Uh,Tl,Un,Nat.reduceAdd,Nat.reduceSub,U5,U6,U7,U8,TJ,TN];clear t;gi_wp2_with fail;refine ⟨trivial,(callsIn_wide.2 (C.out _)).mono ?_⟩;rintro e w1 ⟨rfl,i⟩;have c0:=(i.cell (p:=(zz w 0)) (by simp)).trans y.1;have c1:=(i.cell (p:=(zz w 1)) (by simp)).trans y.2;have E:w.heap.size+1<=w1.heap.size:=by have:=i.size;simpa using this
 have J:=zT HB i;clear i y C;gi_wp2_with fail;refine ⟨trivial,(callsIn_wide.2 (D.out _)).mono ?_⟩;rintro e w2 ⟨rfl,i⟩;have d0:=(i.cell (p:=(zz w 0)) (by simp;omega)).trans c0;have d1:=(i.cell (p:=(zz w 1)) (by simp;omega)).trans c1;have T:=A6 E i.size;have I:=zT J i;clear i c0 c1 E D;obtain ⟨H,j⟩:=eX2 (w2.alloc (hV #[AF none 0 0] 100));have P:=hT (Mo (o:Int) (c:Int) (a:Int) (m:Int) H);have e0:H.cell? (zz w 0)= some (zI o):=by rw [<-j];exact (TZ (PC _ _ _ (by show w.heap.size<_;omega))).trans d0
 have e1:H.cell? (zz w 1)= some (zI c):=by rw [<-j];exact (TZ (PC _ _ _ (by show w.heap.size<_;omega))).trans d1
 gi_wp2_with fail;refine ⟨trivial,(callsIn_wide.2 P.out).mono ?_⟩;rintro e w3 ⟨rfl,rfl⟩;gi_wp2_with fail;obtain ⟨W2,z⟩:=eX2 (((H.alloc (zE o c 103)).alloc (hV #[zI a] 3)).alloc (hV #[zI m] 3));obtain ⟨bP,s1,s2,ca,cm,cg,ao⟩:=Mt w2 0 o c a m H W2 j z w I.out;rw [z];obtain ⟨q,hq⟩:=eX1 w2.heap.size;have bb:w.heap.size+1<=q:=by omega
 rw [<-hq]at bP s1 s2⊢;rw [s1]at ca cm cg⊢;clear z j d0 d1 e0 e1 P T I J HB hq s1;refine wpIn_rangeFunc_ownH rfl (by omega) (gf:=163) (lb:=#[xb (some ⟨q+1+1,0,none⟩), xb (some ⟨q+1+1+1,0,none⟩),zP (q+1)]) rfl trivial (enters_of func163 (by kernel_rfl) rfl) (Mu (3 - 1) (by omega) q (q+1) o c a m (by omega) (by omega) (by omega) (q+1+1) (q+1+1+1) W2 (by omega) (by omega) bP.cell (by omega) (by omega) ca cm cg) (λh k=>h.trans k) (uw (by omega)) zR (λ_=>rfl) (λpre W=>(∃v,Boxed W q 100 v/\W.ownsRow w.heap.size 107 3 v pre.length (cH pre)/\True)/\zB w W) (λ_ _ _=>False) (OwnFrom.and (Own.from (holdsRow_own w.heap.size q 100 107 3 (λpre:List Em.Pc=>pre.length) cH (λ_ _=>True)) _) (ownFrom_below (nm _) (by omega))) (λ_ _ _ _ _ hs _ _=>hs) ⟨⟨_,bP,Ts _ _ _ _,trivial⟩,ao⟩ (λx a' W=>∃Bx,q<Bx/\W.heap[Bx]?= some (hV #[zI x.c,zI x.f,zI x.n] 107 (0,0))/\a'= {tmps:=#[zM o c,zI a,zI m,zP w.heap.size,undef,undef, AF none 0 0,zI 0,zI 0,zI 0,zP q,zP Bx, zM o c,zI m,zP w.heap.size,zI o,zI 0,zI 0, .bool false,undef, zM o c,zI a,zP w.heap.size,zI o,zI m,zI ((o:Int) - (m:Int)),zI 0,zI 0, .bool false,undef, zM o c,zI a,zI m, .func (.func 163) #[] #[xb (some ⟨q+1+1,0,none⟩), xb (some ⟨q+1+1+1,0,none⟩),zP (q+1)], zO x.c x.f x.n,undef,undef,undef,undef,undef],defers:= []}) (λx a' _ X Y row hs hg t=>by obtain ⟨Bx,k1,N,k3⟩:=hs;refine ⟨Bx,k1,(hg.block Bx (DN.1 N).1 λe=>?_).trans N,k3⟩;obtain ⟨_,ob,F,ab⟩:=t Bx e.symm;rw [N]at F;cases F;cases ab) ?assign ?body ?done ?stop;case assign=> rintro l pre x W K ⟨⟨v,s,b,_⟩,A⟩ G;gi_wp2;exact G _ _ ((KeepsOthers.alloc _ _).from _) (Kp.grown (World.grownBy_alloc W _ none) s.lt (λr e=>by cases e)) ⟨⟨v,s.alloc _,b.alloc _,trivial⟩,A.alloc A.size _⟩ ⟨W.heap.size,s.lt,heap_alloc_new W _,rfl⟩
 case body=>
  rintro l pre x a' W hl ⟨r,t⟩ ⟨⟨v,s,b,_⟩,A⟩ ⟨Bx,bo,L,rfl⟩ V;have hc:=s.cell;have x0:W.cell? (zD Bx 0)= some (zI x.c):=zW L;have x1:W.cell? (zD Bx 1)= some (zI x.f):=zW L;have x2:W.cell? (zD Bx 2)= some (zI x.n):=zW L;obtain ⟨k,hk⟩:=eX1 pre.length;rw [<-hk]at b V;have HK:=hT hk;have HR:=hT b;have aw:=hT (qL b);obtain ⟨sa,sc,rfl⟩:∃a c,v= .slice a k c:=by
   rcases b.2 with ⟨h,h0⟩|⟨g,cap,cur,h,_⟩;· exact ⟨none,0,by rw [h,h0]⟩
   ·exact ⟨_,_,h⟩
  clear hk b L;gi_wp2_with (gi_at_builtin;refine zv _ rfl _ _ 100 rfl 107 i0 _ 3 24 underlying100 hi R Q O rfl (by decide) (.slice sa k sc) k (cH pre) rfl (aw.out.alloc _) ⟨W.heap.size,0,none⟩ 1 1 [zI x.c,zI x.f,zI x.n] rfl rfl (Ul (cs:=#[zI x.c,zI x.f,zI x.n]) (heap_alloc_new W _)) (by simp [Uz]) (by unfold maxLen;omega) (by omega) ?_;intro v' w3 d u af;obtain ⟨g',ba,rfl⟩:=ownsRow_succ d;obtain ⟨B,S,U,Z,ad,M⟩:=zx s (by decide) HR.out A.size (by omega) d u (by simpa using af);have bl:=B.cell;have bg:=B.frozen);exact ⟨Z.from _,M,⟨⟨_,S,by rw [oI,DC,<-HK.out];exact U,trivial⟩,A.trans ad⟩⟩
 case done=> rintro D ys W hD rfl ⟨⟨v,s,b,_⟩,A⟩ G;have hc:=s.cell;gi_wp2;refine ⟨by simp, .inl ⟨_,_,rfl,run_takeDeferred G,?_⟩⟩;exact ⟨_,results_tmp2 rfl _ _ _,v,rfl,ownsRow_putObj b _ G rfl,A.trans (belowK_b (w:=w) (nm _) W D _ _ (by omega) G rfl rfl)⟩
 case stop=> rintro D c pre W _ _ h _;exact h.elim
theorem Mw {o c a m:Int} (h:Em.aM o c= false):fK o c a m= 1:=by unfold fK;rw [C7 h];rfl
theorem qW {o c a m:Int} (h:Em.aM o c):(fK o c a m= 0/\0<=m/\m<=o/\0<=a/\a<=o - m)\/fK o c a m= 2/\¬(0<=m/\m<=o/\0<=a/\a<=o - m):=by
 unfold fK;by_cases h1:m<0\/o<m;· rw [lP h h1];exact .inr ⟨rfl,by omega⟩
 ·rw [jY h (by omega) (by omega),if_pos rfl];by_cases b:a<0\/o - m<a;· rw [lP h b];exact .inr ⟨rfl,by omega⟩
  ·rw [jY h (by omega) (by omega)];exact .inl ⟨rfl,by omega,by omega,by omega,by omega⟩
variable{w:World}{base:Nat}{v:Value}{l:List Em.Pc}
theorem Mx (h:w.ownsRow base 107 3 v l.length (cH l)) (k:l≠ []):∃g c,v= AF (some ⟨g,0,none⟩) l.length c/\base<=g/\g<w.heap.size/\ ∀i (hi:i<l.length),w.cell? ⟨g,3*i,none⟩= some (zI (l[i].c:Int))/\w.cell? ⟨g,3*i+1,none⟩= some (zI (l[i].f:Int))/\w.cell? ⟨g,3*i+2,none⟩= some (zI (l[i].n:Int)):=by
 rcases h.2 with ⟨_,q⟩|⟨g,cap,cur,rfl,o,e,h1,s,r,p⟩;· exact (k (List.length_eq_zero_iff.1 q)).elim
 ·refine ⟨g,cap,rfl,o,(DN.1 e).1,λi hi=>?_⟩;have hp:=mS l;have get:∀j x,(cH l)[j]?= some x->w.cell? (zD g j)= some x:=λj x hj=>by rw [cell_of_row _ _ _ _ _ _ e];have m:=(List.getElem?_eq_some_iff.1 hj).1;have d:=hj;rw [<-p,List.getElem?_take,if_pos (by omega)]at d;simpa using d
  obtain ⟨a,b,c⟩:=AK l i hi;exact ⟨get _ _ a,get _ _ b,get _ _ c⟩
theorem AQ (h:w.ownsRow base 107 3 v l.length (cH l)):∃p g c,v= .slice p l.length c/\(l≠ []->p= some ⟨g,0,none⟩/\base<=g/\g<w.heap.size)/\ ∀i (hi:i<l.length),w.cell? ⟨g,i*3,none⟩= some (zI (l[i].c:Int))/\w.cell? ⟨g,i*3+1,none⟩= some (zI (l[i].f:Int))/\w.cell? ⟨g,i*3+2,none⟩= some (zI (l[i].n:Int)):=by
 by_cases a:l= [];·
  subst a;rcases h.2 with ⟨h1,j⟩|⟨g,cap,cur,rfl,_⟩;· exact ⟨none,0,0,h1,λc=>(c rfl).elim,λi hi=>by simp at hi⟩
  ·exact ⟨_,g,cap,rfl,λc=>(c rfl).elim,λi hi=>by simp at hi⟩
 ·obtain ⟨g,c,e,h1,d,b⟩:=Mx h a;exact ⟨_,g,c,e,λ_=>⟨rfl,h1,d⟩,λi hi=>by rw [Nat.mul_comm i 3];exact b i hi⟩
end Geo
end
section
namespace Geo
open Go.RowKit
theorem lL (o c:Int) (w:World):zF 129 #[zI o,zI c] w (zQ (.bool (Em.aM o c)) w):=by
 by_cases h1:1<=o;·
  by_cases d:o<=1048576;·
   by_cases e:1<=c;·
    have a:Em.aM o c= decide (c<=128):=by unfold Em.aM;simp [h1,d,e]
    have b:=hT a;clear a;go_enter func129,ntmps129;go_wp2_with fail;go_ret;exact ⟨by rw [b.out];rfl,rfl⟩
   ·have a:Em.aM o c= false:=by unfold Em.aM;simp [h1,d,e]
    have b:=hT a;clear a;go_enter func129,ntmps129;go_wp2_with fail;go_ret;exact ⟨by rw [b.out];rfl,rfl⟩
  ·have a:Em.aM o c= false:=by unfold Em.aM;simp [h1,d]
   have b:=hT a;clear a;go_enter func129,ntmps129;go_wp2_with fail;go_ret;exact ⟨by rw [b.out];rfl,rfl⟩
 ·have a:Em.aM o c= false:=by unfold Em.aM;simp [h1]
  have b:=hT a;clear a;go_enter func129,ntmps129;go_wp2_with fail;go_ret;exact ⟨by rw [b.out];rfl,rfl⟩
theorem BM (o c:Int) (w:World):zF 76 #[zI o,zI c] w (zQ (zI (many o c)) w):=by have C:=hT (lL o c w);cases hr:Em.aM o c with
 | false =>
 rw [hr]at C;have hm:many o c= 0:=by unfold many;rw [hr];rfl
 rw [hm];clear hr hm;go_enter func76,ntmps76;go_wp2_with fail;refine zh C.out ?_;go_wp2_with fail;go_ret;exact ⟨rfl,rfl⟩
 | true =>
 rw [hr]at C;obtain ⟨a,b,rfl,rfl,h1,v,u,t⟩:=Em.rV hr;rw [oE hr];have g:=Em.iw a b;have l:=hT (λk=>Em.kL (n:=a) (s:=b) (k:=k) (by omega));obtain ⟨p,hp⟩:=eX1 (Em.parts a b);rw [<-hp]at g⊢;simp only [<-hp]at l;clear hr hp;go_enter func76,ntmps76;go_wp2_with fail;refine zh C.out ?_;clear C;go_wp2_with fail;go_loop [6] (λi=>∃k:Nat,k<=p/\i= zI k) (λi=>p - (CS i).toNat);case atStart=>exact ⟨0,yb _,rfl⟩
 case round=>
  obtain ⟨k,hk,rfl⟩:=hrel;obtain ⟨q,d⟩:=eX1 (k*b);have r:(k:Int) * (b:Int)= (q:Int):=by rw [d];exact (VL k b).symm
  have m:q<=134217728:=by have:k*b<=1048576*128:=Nat.mul_le_mul (by omega) (by omega);omega
  by_cases e:k<p;·
   have f:q<a:=by rw [d];exact (l.out k).1 e
   clear d;go_wp2_with fail;go_round;case rel=>exact ⟨k+1,by omega,by go_num⟩
   case measure=>simp [CS];omega
  ·have f:¬q<a:=by rw [d];exact λh=>e ((l.out k).2 h)
   have j:k= p:=by omega
   subst j;clear d;go_wp2_with fail;go_ret;exact ⟨rfl,rfl⟩
theorem Qc (o c a m:Int) (w:World) (i:o<=9223372036854775807) (j:a<=9223372036854775807) (h:fK o c a m≠0):zF 69 #[zI o,zI c, zM a m] w λe w'=>e= zV (AF none 0 0) (zI (fK o c a m))/\zB w w':=by have C:=hT (lL o c);have b:Hid (zB w (w.alloc (zE a m 65))):=zA;cases hr:Em.aM o c with
 | false => rw [Mw hr];rw [hr]at C;clear h hr;go_enter func69,ntmps69;go_wp2_with fail;refine zh (C.out _) ?_;go_wp2_with fail;go_ret2;exact ⟨rfl,b.out⟩
 | true =>
 rw [hr]at C;rcases qW hr (a:=a) (m:=m) with h1|⟨h1,k⟩;· exact (h h1.1).elim
 ·rw [h1];obtain ⟨g1,g2,g3,g4⟩:=(Em.cM _ _).1 hr;clear h hr h1;by_cases d1:a<0;·
   go_enter func69,ntmps69;have g:decide (a<0):=by simpa using d1
   go_wp2_with fail;refine zh (C.out _) ?_;go_wp2_with fail;go_ret2;exact ⟨rfl,b.out⟩
  ·have g:decide (a<0)= false:=by simpa using d1
   by_cases d2:m<0;·
    have f:decide (m<0):=by simpa using d2
    go_enter func69,ntmps69;go_wp2_with fail;refine zh (C.out _) ?_;go_wp2_with fail;go_ret2;exact ⟨rfl,b.out⟩
   ·have f:decide (m<0)= false:=by simpa using d2
    by_cases d3:o<a;·
     have d:decide (o<a):=by simpa using d3
     go_enter func69,ntmps69;go_wp2_with fail;refine zh (C.out _) ?_;go_wp2_with fail;go_ret2;exact ⟨rfl,b.out⟩
    ·have d:decide (o<a)= false:=by simpa using d3
     have l:decide (o - a<m):=by simp;omega
     go_enter func69,ntmps69;go_wp2_with fail;refine zh (C.out _) ?_;go_wp2_with fail;go_ret2;exact ⟨rfl,b.out⟩
theorem Qd:(prog.info? 129).map (λi=>(i.zero,i.size,i.bytes))= some (some (zO 0 0 0),3,24):=by kernel_rfl
theorem Qe (l:List Em.Pc) (x:Em.Pc):(cH (l ++ [x])).set (l.length*3+2) (zI ((x.n:Int) +1))= cH (l ++ [⟨x.c,x.f,x.n+1⟩]):=by rw [oI,oI,List.set_append_right _ _ (by rw [mS];omega),mS,show l.length*3+2 - l.length*3= 2 by omega];simp
theorem BR (o c a m:Nat) (w:World) (Q:Em.aM o c) (bx:a+m<=o):zF 69 #[zI o,zI c, zM a m] w λe w'=> ∃v,e= zV v (zI 0)/\w'.ownsRow w.heap.size 129 3 v (Em.split c a m).length (cH (Em.split c a m))/\zB w w':=by
 have C:=hT (lL o c);rw [Q]at C;obtain ⟨g1,g2,g3,g4⟩:=(Em.cM _ _).1 Q;obtain ⟨i0,hi,O,N,M⟩:=info_parts Qd;obtain ⟨K,G⟩:=eX2 (w.alloc (zE a m 65));have V:K.heap[w.heap.size]?= some (hV #[zI a,zI m] 65 (0,0)):=by rw [<-G];exact heap_alloc_new _ _
 have bg:K.heap.size= w.heap.size+1:=by rw [<-G];simp
 have HB:Hid (zB w K):=by rw [<-G];exact zA
 have HZ:=hT V;have z0:K.cell? (zz w 0)= some (zI a):=zW V;have z1:K.cell? (zz w 1)= some (zI m):=zW V;have d1:decide ((a:Int) <0)= false:=by simp
 have d2:decide ((m:Int) <0)= false:=by simp
 have ab:decide (o<a)= false:=by simp;omega
 have d4:decide ((o:Int) - (a:Int) < (m:Int))= false:=by simp;omega
 have hc:1<=c:=by omega
 have ho:o<=1048576:=by omega
 clear Q V g1 g2 g3;go_enter func69,ntmps69;go_wp2_with fail;refine zh (C.out _) ?_;clear C G;go_wp2_with fail;clear d1 d2 d4 ab;go_loopw [9,10] (λv i wr=>∃k:Nat,k<=m/\i= zI k/\Hid (wr.ownsRow (w.heap.size+1) 129 3 v (Em.split c a k).length (cH (Em.split c a k)))/\Hid (Below (w.heap.size+1) K wr)) (λ_ i _=>m - (CS i).toNat);case atStart=>exact ⟨0,yb _,rfl,hT (Ts _ _ _ _),hT zR⟩
 case round=>
  obtain ⟨k,hk,rfl,b,d⟩:=hrel;have y0:=(d.out.cell (p:=(zz w 0)) (by simp)).trans z0;have y1:=(d.out.cell (p:=(zz w 1)) (by simp)).trans z1;have W:w.heap.size+1<=wr.heap.size:=by have:=d.out.size;omega
  by_cases bq:k<m;·
   have z:=Em.C0 (c:=c) (by omega) a k;have I:=Em.kM c a k;obtain ⟨t,P⟩:=eX1 (a+k);rw [<-P]at z;obtain ⟨f,L⟩:=eX1 (t % c);have Z:(t:Int) % (c:Int)= (f:Int):=by rw [L];simp
   have bf:(a:Int) + (k:Int)= (t:Int):=by rw [P];simp
   have ba:(t:Int).tmod (c:Int)= (f:Int):=by rw [Int.tmod_eq_emod_of_nonneg (by omega)];exact Z
   rw [<-L]at z;have bb:t<=1048576:=by omega
   by_cases s:0<k/\f≠0;·
    rw [if_pos s]at z;obtain ⟨T,J⟩:=s;have S:Em.split c a k≠ []:=by intro e;have:=Em.rX (c:=c) (by omega) k a (a+k) (by omega) (by omega);rw [show Em.cut c k a (a+k)= []from e]at this;simp at this;omega
    obtain ⟨l,x,F⟩:∃l x,Em.split c a k= l ++ [x]:=⟨_,_,(List.dropLast_concat_getLast S).symm⟩;rw [F,Em.CW]at z;rw [F]at b I;obtain ⟨n,E⟩:=eX1 l.length;rw [DC,T3,<-E]at b I;obtain ⟨g,cap,rfl⟩:=ownsRow_succ b.out;have af:x.n<=k:=by have:=Em.rX (c:=c) (by omega) k a (a+k) (by omega) (by omega);rw [show Em.cut c k a (a+k)= l ++ [x]from F]at this;simp at this;omega
    have r0:wr.cell? ⟨g,n*3+2,none⟩= some (zI x.n):=by rw [b.out.cellAt _ (by omega),oI,List.getElem?_append_right (by rw [mS];omega),mS,E,show l.length*3+2 - l.length*3= 2 by omega];rfl
    have r1:=b.out.frozenAt (n*3+2);have Y:=(lC b.out g rfl).1;have ST:=hT (b.out.stored (n*3+2) (zI ((x.n:Int) +1)));have HS:=hT z;have HN:=hT E;have e2:((f:Int) != 0):=by simp;omega
    have i2:(n:Int) +1 - 1= (n:Int):=by omega
    clear z E L P F S b J;go_wp2_with fail;refine ⟨⟨k+1,by omega,by simp,hT ?_,hT (d.out.setCell (p:=⟨g,n*3+2,none⟩) Y _)⟩,by simp [CS];omega⟩;rw [HS.out,<-Qe,DC,T3,<-HN.out];exact ST.out.1
   ·rw [if_neg s]at z;obtain ⟨n,E⟩:=eX1 ((Em.split c a k).length);rw [<-E]at b I;obtain ⟨pa,pc,hv⟩:∃a' c',u9= .slice a' n c':=by
     rcases b.out.2 with ⟨h,h0⟩|⟨g,cap,cur,h,_⟩;· exact ⟨none,0,by rw [h,h0]⟩
     ·exact ⟨_,_,h⟩
    subst hv;obtain ⟨q,R⟩:=eX1 (t / c);have bm:(t:Int) / (c:Int)= (q:Int):=by rw [R];simp
    rw [<-R]at z;have bs:f<c:=by rw [L];exact Tu _ (by omega)
    have bl:q<=t:=by rw [R];exact UI _ _
    have HS:=hT z;have HN:=hT E;have HO:Hid (∀r,(AF pa n pc).ownBlock= some r->w.heap.size+1<=r):=λr Q=>(lC b.out r Q).1;have U:Hid ((wr.alloc (zK q f 1 129)).drew.ownsRow (w.heap.size+1) 129 3 (.slice pa n pc) n (cH (Em.split c a k))):= (b.out.alloc _).drew;have H:Hid (∀j u,([zI q,zI f,zI 1]:List Value)[j]?= some u->(wr.alloc (zK q f 1 129)).drew.cell? ((⟨wr.heap.size,0,none⟩:Addr).add j)= some u):= Ul (cs:=#[zI q,zI f,zI 1]) (show (wr.alloc _).heap[wr.heap.size]?= _ from heap_alloc_new _ _);have ONE:Hid (∀u∈([zI q,zI f,zI 1]:List Value),u.oneCell'= true):=by refine hT ?_;simp [Uz]
    have HW:=hT d.out;have fin:Hid (∀g cap (w2:World),w2.ownsRow (w.heap.size+1) 129 3 (zS g (n+1) cap) (n+1) (cH (Em.split c a k) ++ [zI q,zI f,zI 1])-> (wr.alloc (zK q f 1 129)).drew.grownBy w2 (AF pa n pc).ownBlock-> w2.ownsRow (w.heap.size+1) 129 3 (zS g (n+1) cap) (Em.split c a (k+1)).length (cH (Em.split c a (k+1)))/\Below (w.heap.size+1) K w2):=by
     intro g cap w2 h1 h2;refine ⟨?_,?_⟩;· rw [HS.out,oI,DC,T3,<-HN.out];exact h1
     ·exact ((HW.out.alloc W _).drew).grown h2 (by show _<=(wr.alloc _).heap.size;simp;omega) (λj e=>HO.out j e.symm.symm)
    have bo:n<=1048576:=by omega
    have bt:c≠0:=by omega
    have ao:lg.wrap (q:Int)= (q:Int):=rr _ (by omega);have aw:lg.wrap (f:Int)= (f:Int):=rr _ (by omega);by_cases T:0<k;·
     have J:f= 0:=by
      rcases Nat.eq_zero_or_pos f with h|h;· exact h
      ·exact (s ⟨T,by omega⟩).elim
     have e2:((f:Int) != 0)= false:=by simp;omega
     clear z E L P R b d s J;go_wp2_with fail;go_region_law (refine step_append_lies _ rfl (.tmp 68) (.tmp 76) 126 rfl (w.heap.size+1) 129 i0 _ 3 24 underlying126 hi O N M rfl (by decide) (.slice pa n pc) n (cH (Em.split c a k)) (by simp [SB]) U.out ⟨wr.heap.size,0,none⟩ 1 1 [zI q,zI f,zI 1] (by simp [SB]) rfl H.out ONE.out (by omega) (by unfold maxLen;omega) (by omega) (by show _<=(wr.alloc _).heap.size;simp;omega) (wr.heap.size+1) (by simp) ?_;intro g cap w2 y B D A;have FI:=hT (fin.out g cap w2 y B);clear y B D A);all_goals
      go_wp2_with fail;go_roundw;case rel=>exact ⟨k+1,by omega,by go_num,hT FI.out.1,hT FI.out.2⟩
      case measure=>simp [CS];omega
    ·clear z E L P R b d s;go_wp2_with fail;go_region_law (refine step_append_lies _ rfl (.tmp 68) (.tmp 76) 126 rfl (w.heap.size+1) 129 i0 _ 3 24 underlying126 hi O N M rfl (by decide) (.slice pa n pc) n (cH (Em.split c a k)) (by simp [SB]) U.out ⟨wr.heap.size,0,none⟩ 1 1 [zI q,zI f,zI 1] (by simp [SB]) rfl H.out ONE.out (by omega) (by unfold maxLen;omega) (by omega) (by show _<=(wr.alloc _).heap.size;simp;omega) (wr.heap.size+1) (by simp) ?_;intro g cap w2 y B D A;have FI:=hT (fin.out g cap w2 y B);clear y B D A);all_goals
     go_wp2_with fail;go_roundw;case rel=>exact ⟨k+1,by omega,by go_num,hT FI.out.1,hT FI.out.2⟩
     case measure=>simp [CS];omega
  ·have X:k= m:=by omega
   subst X;have HR:=hT (b.out);obtain ⟨pa,pc,hv⟩:∃a' c',u9= .slice a' (Em.split c a k).length c':=by
    rcases b.out.2 with ⟨h,h0⟩|⟨g,cap,cur,h,_⟩;· exact ⟨none,0,by rw [h,h0]⟩
    ·exact ⟨_,_,h⟩
   have ad:=hT (HB.out.trans (d.out.mono (Nat.le_succ _)));clear b d;go_wp2_with fail;go_ret2;exact ⟨_,rfl,zw (qL HR.out) (λr h=>by have:=(lC HR.out r h).1;omega),ad.out⟩
end Geo
end
end Go.Proofs.YtchihokmgmchcaaGreat
