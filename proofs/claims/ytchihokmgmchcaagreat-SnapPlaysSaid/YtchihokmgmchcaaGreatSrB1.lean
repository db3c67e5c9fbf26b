/- B1, of the proof -/
import Derived.Test.YtchihokmgmchcaaGreatSrM1
import Derived.Test.YtchihokmgmchcaaGreatSq0K
import Derived.Test.YtchihokmgmchcaaGreatProg
import Derived.Laws.CopyOwn
import Derived.Lib.Hide
import Derived.Deep.Draws
import Derived.WalkSpells
import Derived.StillTailTactics
import Derived.Lib.BufferRead
import Derived.Deep.AppendLies
import Derived.Deep.RegionHeld3
import Derived.OpenShut
import Derived.Deep.Fields
set_option linter.unusedVariables false
set_option maxRecDepth 100000
set_option maxHeartbeats 4000000
namespace Go.Proofs.YtchihokmgmchcaaGreat
open Go.Proofs.Tryz
open Nat renaming le_refl->nm,le_trans->A6,lt_irrefl->TL,lt_of_lt_of_le->ti,min_eq_left->UQ,mul_comm->SH,zero_le->yb
open Go.RowKit.Below renaming heap_alloc->PC,heap_setCell->L2
open Go.World renaming cell?_alloc_at->VZ,cell?_of_block->TZ,ownsMap_made->WN,ownsRow->Tt,ownsRow_nil->Ts,setCell->Vk
open Go.Obj renaming cells->hV
open Go.Value renaming ownBlock->TS,slice->AF,tuple->CE
open _root_.Array renaming getElem?_eq_some_iff->DN,length_toList->VH
open Go.IntKind renaming bits->V_,i64->lg,max->V8,min->V7,signed->V9
open Go.Maps renaming has_put_other->XX,keyOf_int_mk->X4
open List renaming append_assoc->NR,append_nil->Uj,drop_append_of_le_length->Ur,drop_replicate->X5,drop_succ_cons->U0,drop_zero->TA,getElem?_append_left->TE,getElem?_eq_some_iff->C2,length_append->DC,length_drop->IV,length_map->PN,length_range->Tw,length_replicate->Tq,length_set->TB,length_take->E4,mem_append->RR,mem_singleton->H5,replicate->vw,take_append_of_le_length->Uq,take_length->Vj,take_of_length_le->OP,take_succ_cons->UZ,take_succ_eq_append_getElem->TD,take_zero->Tj
open Go.Lib renaming byteCells->KP,byteCells_length->Uy,hid->hT
open Bool renaming eq_false_iff->Uc
open Go.Ending renaming returned->nf
open Ne renaming symm->Vm
open Go.IntWalk renaming i64_in->rr
open Go.WalkArith renaming wf_i64->WS
open Go.RowKit renaming intOf->CS
open Int renaming toNat_natCast->GH
section
namespace ae
open Go.RowKit
structure Fr (F:Nat->Prop) (w w':World):Prop where
 os:w'.os= w.os
 tape:w'.tape= w.tape
 output:w'.output= w.output
 size:w.heap.size<=w'.heap.size
 block:∀k,k<w.heap.size->¬F k->w'.heap[k]?= w.heap[k]?
theorem Fr.refl (F:Nat->Prop) (w:World):Fr F w w:=⟨rfl,rfl,rfl,nm _,λ_ _ _=>rfl⟩
variable{F:Nat→Prop}
theorem Fr.trans {G:Nat->Prop} {a b c:World} (h:Fr F a b) (k:Fr G b c) (hg:∀i,i<a.heap.size->G i->F i):Fr F a c:= ⟨k.os.trans h.os,k.tape.trans h.tape,k.output.trans h.output,A6 h.size k.size,λi hi hF=>(k.block i (ti hi h.size) (λe=>hF (hg i hi e))).trans (h.block i hi hF)⟩
theorem Fr.mono {G:Nat->Prop} {a b:World} (h:Fr F a b) (hg:∀i,i<a.heap.size->F i->G i):Fr G a b:=⟨h.os,h.tape,h.output,h.size,λi hi hG=>h.block i hi (λe=>hG (hg i hi e))⟩
theorem Fr.ax {a b:World} (h:zB a b):Fr F a b:=⟨h.os,h.tape,h.output,h.size,λi hi _=>h.block i hi⟩
theorem Fr.below {a b:World} (h:Fr F a b) {B:Nat} (d:B<=a.heap.size) (c:∀k,F k->B<=k):Below B a b:= ⟨h.os,h.tape,h.output,h.size,λi hi=>h.block i (by omega) (λe=>by have:=c i e;omega)⟩
theorem Fr.jz {a b:World} {row:Option Nat} (h:a.grownBy b row) (hr:∀k,row= some k->F k):Fr F a b:= ⟨h.os,h.tape,h.output,h.size,λi hi hF=>h.block i hi (λe=>hF (hr i e.symm))⟩
theorem Fr.alloc {a b:World} (h:Fr F a b) (o:Obj):Fr F a (b.alloc o):= h.trans (G:=λ_=>False) ⟨rfl,rfl,rfl,by simp,λk hk _=>PC _ _ _ hk⟩ (λ_ _ e=>e.elim)
theorem Fr.setCell {a b:World} (h:Fr F a b) (p:Addr) (hp:F p.block) (u:Value):Fr F a (b.setCell p u):= h.trans (G:=λk=>k= p.block) ⟨rfl,rfl,rfl,by simp [Vk],λk hk hne=>L2 _ _ _ _ hne⟩ (λi _ e=>e▸hp)
theorem Fr.setRow {a b:World} (h:Fr F a b) (g:Nat) (hp:F g) (cs:Array Value):Fr F a (b.setRow g cs):= h.trans (G:=λk=>k= g) ⟨rfl,rfl,rfl,by simp,λk hk hne=>setRow_other b g k cs hne⟩ (λi _ e=>e▸hp)
variable{w w':World}{base size n:Nat}{e:TypeId}{v:Value}{xs:List Value}
theorem bc (h:w.ownsRow base e size v n xs) (d:∀k,v.ownBlock= some k->w'.heap[k]?= w.heap[k]?):w'.ownsRow base e size v n xs:=by
 refine ⟨h.1,?_⟩;rcases h.2 with f|⟨g,cap,cur,a,c,b,r⟩;· exact Or.inl f
 ·refine Or.inr ⟨g,cap,cur,a,c,?_,r⟩;rw [d g (by rw [a];rfl)];exact b
theorem iF {H:Type} {P:Program} {k:TypeId} {R:Value->Option (DataW H×List MemPlace)} {b:Nat} {D:DataW H} (h:w.ownsMap P k R b n D) (a:w'.heap[b]?= w.heap[b]?):w'.ownsMap P k R b n D:=by obtain ⟨c,clock,h1,r⟩:=h;exact ⟨c,clock,a.trans h1,r⟩
theorem ck (h:w.ownsRow base e size v n xs):∃a c,v= .slice a n c:=by
 rcases h.2 with ⟨d,rfl⟩|⟨g,cap,cur,b,_⟩;· exact ⟨_,_,d⟩
 ·exact ⟨_,_,b⟩
theorem bV (h:w.ownsRow base e size v n xs) (k:Nat) (hk:v.ownBlock= some k):∃cur,w.heap[k]?= some (hV cur e (0,0)):=by
 rcases h.2 with ⟨rfl,_⟩|⟨g,cap,cur,rfl,_,a,_⟩;· simp [TS]at hk
 ·simp [TS]at hk;subst hk;exact ⟨cur,a⟩
variable{k:Nat}
theorem lt_of_heap {o:Obj} (h:w.heap[k]?= some o):k<w.heap.size:=(DN.1 h).1
def gA (P:List (Nat×List UInt8)):List Value:=P.flatMap λx=> [zI x.1, .string (Om.B x.2)]
theorem F_ (P:List (Nat×List UInt8)) (k:Nat) (d:zL):gA (P ++ [(k,d)])= gA P ++ [zI k, .string (Om.B d)]:=by simp [gA]
theorem xD (P:List (Nat×List UInt8)) (i:Nat) (h:i<P.length):(gA P)[2*i]?= some (zI (P[i].1:Int))/\(gA P)[2*i+1]?= some (.string (Om.B P[i].2)):=by induction P generalizing i with
 | nil=>simp at h
 | cons x P ih => have e:gA (x :: P)= zI x.1 :: .string (Om.B x.2) :: gA P:=rfl;rw [e];cases i with
 | zero=>simp
 | succ i => have:=ih i (by simpa using h);rw [show 2* (i+1)= 2*i+1+1 by omega];simpa using this
def fH (D:DataW Unit) (P:List (Nat×List UInt8)):Prop:= Maps.IsMap D/\∀k:Nat,(Maps.has D (.int lg k)= false/\∀x∈P,x.1≠k)\/ ∃i d,Maps.has D (.int lg k)= true/\(∀z,D.atKey (.int lg k) z= .lit (.int lg (i:Nat)))/\P[i]?= some (k,d)/\∀s,Dm.last P k s= d
theorem xE:fH (.map []) []:=⟨Maps.isMap_empty,λk=>Or.inl ⟨rfl,λx hx=>by cases hx⟩⟩
variable{P:List (Nat×List UInt8)}
theorem Ga {D:DataW Unit} (h:fH D P) (k:Nat) (d:zL):fH (D.put (.int lg k) (.lit (.int lg P.length))) (P ++ [(k,d)]):=by
 refine ⟨h.1.put _ _,λj=>?_⟩;by_cases e:j= k;· subst e;refine Or.inr ⟨P.length,d,Maps.has_put_same h.1 (k:= .int lg j) trivial _,λz=>Maps.atKey_put_same h.1 (k:= .int lg j) trivial _ _,by simp,λs=>by rw [Dm.sg,if_pos rfl]⟩
 ·have a:(Lit.int lg j)≠ .int lg k:=λc=>e (by injection c with _ c;omega);rcases h.2 j with ⟨h1,f⟩|⟨i,m,h1,f,g,l⟩;·
   refine Or.inl ⟨by rw [XX a];exact h1,λx b=>?_⟩;rcases RR.1 b with b|b;· exact f x b
   ·rw [H5.1 b];exact λc=>e c.symm
  ·refine Or.inr ⟨i,m,by rw [XX a];exact h1,λz=>by rw [Maps.atKey_put_other a];exact f z,?_,λs=>by rw [Dm.sg,if_neg (λc=>e c.symm)];exact l s⟩;rw [TE (DN.1 (by simpa using g)|>.1)];exact g
structure Ob where
 p:Nat
 sb:Nat
 pv:Value
 mb:Nat
 f:Int
 sp:List UInt8
def Ob.fp (o:Ob) (k:Nat):Prop:=k= o.p\/k= o.sb\/o.pv.ownBlock= some k\/k= o.mb
def Ob.cells (o:Ob) (n:Nat) (dead:Bool):Array Value:=#[zS o.sb n (n+o.sp.length),o.pv, .map (some o.mb),zI o.f, .bool dead]
structure Dk (w:World) (o:Ob) (st:Dm.St):Prop where
 ok:Dm.Ok st
 head:w.heap[o.p]?= some (hV (o.cells (64*st.S.length) st.dead) 83 (0,0))
 stands:w.heap[o.sb]?= some (hV (KP (st.S.flatten ++ o.sp)).toArray 5 (0,0))
 bQ:w.ownsRow 0 216 2 o.pv st.P.length (gA st.P)
 jA:∃D n,w.ownsMap prog 3 (plainElem (H:=Unit) prog 3) o.mb n D/\n<=st.P.length/\fH D st.P
 bj:max o.f (-1)= st.bj
 low: -9223372036854775808<=o.f
 high:o.f<=9223372036854775807
variable{o:Ob}{st:Dm.St}
theorem Dk.lt (h:Dk w o st) (k:Nat) (hk:o.fp k):k<w.heap.size:=by
 rcases hk with rfl|rfl|hk|rfl;· exact lt_of_heap h.head
 ·exact lt_of_heap h.stands
 ·obtain ⟨cur,a⟩:=bV h.bQ k hk;exact lt_of_heap a
 ·obtain ⟨D,n,hm,_⟩:=h.jA;exact hm.lt
theorem Dk.same (h:Dk w o st) (a:∀k,o.fp k->w'.heap[k]?= w.heap[k]?):Dk w' o st:=by obtain ⟨D,n,hm,r⟩:=h.jA;exact ⟨h.ok,(a _ (.inl rfl)).trans h.head,(a _ (.inr (.inl rfl))).trans h.stands,bc h.bQ λk hk=>a k (.inr (.inr (.inl hk))),⟨D,n,iF hm (a _ (.inr (.inr (.inr rfl)))),r⟩,h.bj,h.low,h.high⟩
theorem Dk.keep (h:Dk w o st) (hf:Fr F w w') (hd:∀k,o.fp k->¬F k):Dk w' o st:=h.same λk hk=>hf.block k (h.lt k hk) (hd k hk)
theorem Dk.below (h:Dk w o st) (hb:zB w w'):Dk w' o st:=h.same λk hk=>hb.block k (h.lt k hk)
structure Step (o o':Ob) (w w':World):Prop where
 fr:Fr o.fp w w'
 fp:∀k,o'.fp k->o.fp k\/w.heap.size<=k
 p:o'.p= o.p
theorem Step.refl (o:Ob) (w:World):Step o o w w:=⟨Fr.refl _ _,λ_ h=> .inl h,rfl⟩
theorem Step.trans {a b c:Ob} {u v:World} (h:Step a b u v) (k:Step b c v w):Step a c u w:=by
 refine ⟨h.fr.trans k.fr λi hi hb=>?_,λi hi=>?_,k.p.trans h.p⟩;·
  rcases h.fp i hb with h1|h1;· exact h1
  ·omega
 ·rcases k.fp i hi with h1|h1;· exact h.fp i h1
  ·exact .inr (A6 h.fr.size h1)
theorem Step.below {o':Ob} (h:Step o o' w w') {B:Nat} (hB:B<=w.heap.size) (ho:∀k,o.fp k->B<=k):Below B w w'/\∀k,o'.fp k->B<=k:= ⟨h.fr.below hB ho,λk hk=>(h.fp k hk).elim (ho k) (A6 hB)⟩
theorem Step.ax (h:zB w w'):Step o o w w':=⟨Fr.ax h,λ_ h=> .inl h,rfl⟩
theorem Dk.reads (h:Dk w o st): w.cell? (zD o.p 0)= some (zS o.sb (64*st.S.length) (64*st.S.length+o.sp.length))/\w.cell? (zD o.p 1)= some o.pv/\w.cell? (zD o.p 2)= some (.map (some o.mb))/\ w.cell? (zD o.p 3)= some (zI o.f)/\w.cell? (zD o.p 4)= some (.bool st.dead)/\∀j,w.frozen? (zD o.p j)= false:=by refine ⟨?_,?_,?_,?_,?_,λj=>frozen_of_row _ _ _ _ _ h.head⟩<;>(rw [cell_of_row _ _ _ _ _ _ h.head];rfl)
theorem nY (h:Dk w o st):zF 41 #[zP o.p] w (zQ (zI st.S.length) w):=by
 obtain ⟨c,_,_,_,_,_⟩:=h.reads;have hk:=h.ok.aS;obtain ⟨n,b⟩:=eX1 st.S.length;rw [<-b]at c hk⊢;clear b h;have a:((64*n:Nat):Int) / 64= (n:Int):=by omega
 have d:=hT a;clear a;go_enter func41,ntmps41;go_wp2;go_ret;exact ⟨by rw [<-d.out];rfl,rfl⟩
theorem Hb (h:Dk w o st):zF 44 #[zP o.p] w (zQ (.bool st.dead) w):=by obtain ⟨_,_,_,_,a,_⟩:=h.reads;clear h;go_enter func44,ntmps44;go_wp2;go_ret;exact ⟨rfl,rfl⟩
theorem qg (h:Dk w o st) (a n:Int) (g:a<=9223372036854775807):zF 145 #[zP o.p,zI a,zI n] w (zQ (.bool (Dm.dn st a n)) w):=by
 have hk:=h.ok.aS;have b:=Dm.fb st a n;by_cases h1:0<=a;·
  by_cases f:0<=n;·
   have d:Dm.dn st a n= decide (n<=(st.S.length:Int) - a):=by rw [Bool.eq_iff_iff,b];simp [h1,f]
   have e:=hT d;clear d b;go_enter func145,ntmps145;go_wp2_with (go_at_call 41;refine zh (nY h) ?_);all_goals (go_ret;exact ⟨by rw [e.out];simp_all,rfl⟩)
  ·have d:Dm.dn st a n= false:=by rw [Uc];intro c;exact f (b.1 c).2.1
   have e:=hT d;clear d b;go_enter func145,ntmps145;go_wp2_with fail;go_ret;exact ⟨by rw [e.out];rfl,rfl⟩
 ·have d:Dm.dn st a n= false:=by rw [Uc];intro c;exact h1 (b.1 c).1
  have e:=hT d;clear d b;go_enter func145,ntmps145;go_wp2_with fail;go_ret;exact ⟨by rw [e.out];rfl,rfl⟩
theorem Dk.apart (h:Dk w o st):o.sb≠o.p/\o.mb≠o.p/\o.mb≠o.sb/\(∀k,o.pv.ownBlock= some k->k≠o.p/\k≠o.sb/\k≠o.mb):=by
 obtain ⟨D,n,⟨c,clock,hm,_⟩,_⟩:=h.jA;have h1:=h.head;have b:=h.stands;refine ⟨λe=>?_,λe=>?_,λe=>?_,λk hk=>⟨λe=>?_,λe=>?_,λe=>?_⟩⟩;· rw [e,h1]at b;injection b with b;injection b with _ b;cases b
 ·rw [e,h1]at hm;injection hm with hm;cases hm
 ·rw [e,b]at hm;injection hm with hm;cases hm
 ·obtain ⟨cur,a⟩:=bV h.bQ k hk;rw [e,h1]at a;injection a with a;injection a with _ a;cases a
 ·obtain ⟨cur,a⟩:=bV h.bQ k hk;rw [e,b]at a;injection a with a;injection a with _ a;cases a
 ·obtain ⟨cur,a⟩:=bV h.bQ k hk;rw [e,hm]at a;injection a with a;cases a
theorem Dk.Hc (h:Dk w o st) (f:Int) (a: -9223372036854775808<=f) (b:f<=9223372036854775807): Dk (w.setCell ⟨o.p,3,none⟩ (zI f)) {o with f:=f} (Dm.fail st f):=by
 obtain ⟨a1,a2,_,a3⟩:=h.apart;obtain ⟨D,n,hm,r⟩:=h.jA;refine ⟨Dm.DF h.ok f,?_,?_,?_,⟨D,n,iF hm (L2 _ _ _ _ a2),r⟩,rfl,a,b⟩;· rw [heap_setCell_same _ _ _ _ _ _ h.head];rfl
 ·rw [L2 _ _ _ _ a1];exact h.stands
 ·exact bc h.bQ λk hk=>L2 _ _ _ _ (a3 k hk).1
theorem Dk.He (h:Dk w o st) (b:Bool):Dk (w.setCell ⟨o.p,4,none⟩ (.bool b)) o {st with dead:=b}:=by
 obtain ⟨a1,a2,_,a3⟩:=h.apart;obtain ⟨D,n,hm,r⟩:=h.jA;refine ⟨⟨h.ok.fA,h.ok.writes,h.ok.bj,h.ok.aS⟩,?_,?_,?_,⟨D,n,iF hm (L2 _ _ _ _ a2),r⟩,h.bj,h.low,h.high⟩;· rw [heap_setCell_same _ _ _ _ _ _ h.head];rfl
 ·rw [L2 _ _ _ _ a1];exact h.stands
 ·exact bc h.bQ λk hk=>L2 _ _ _ _ (a3 k hk).1
theorem Dk.Hf (h:Dk w o st):Dk (((w.setCell ⟨o.p,1,none⟩ (AF none 0 0)).setCell ⟨o.p,2,none⟩ (.map (some w.heap.size))).alloc (.map #[] 0)) {o with pv:= AF none 0 0,mb:=w.heap.size} {st with P:= []}:=by
 obtain ⟨a1,a2,_,a3⟩:=h.apart;have hp:=lt_of_heap h.head;have b:=lt_of_heap h.stands;have a:((w.setCell ⟨o.p,1,none⟩ (AF none 0 0)).setCell ⟨o.p,2,none⟩ (.map (some w.heap.size))).heap.size= w.heap.size:=by simp [Vk]
 refine ⟨⟨h.ok.fA,(λx hx=>by cases hx),h.ok.bj,h.ok.aS⟩,?_,?_,Ts _ _ _ _,⟨.map [],0,?_,nm _,xE⟩,h.bj,h.low,h.high⟩;· rw [PC _ _ _ (by rw [a];exact hp),heap_setCell_same _ _ _ _ _ _ (heap_setCell_same _ _ _ _ _ _ h.head)];rfl
 ·rw [PC _ _ _ (by rw [a];exact b),L2 _ _ _ _ a1,L2 _ _ _ _ a1];exact h.stands
 ·have:=WN (H:=Unit) ((w.setCell ⟨o.p,1,none⟩ (AF none 0 0)).setCell ⟨o.p,2,none⟩ (.map (some w.heap.size))) prog 3 (plainElem prog 3);rw [a]at this;exact this
def ai (o:Ob) (st:Dm.St) (w w':World):Prop:=∃o',Dk w' o' st/\Step o o' w w'
theorem ai.refl (h:Dk w o st):ai o st w w:=⟨o,h,Step.refl _ _⟩
theorem xT (o o':Ob) (w:World) (i:Nat) (v:Value) (hfp:∀k,o'.fp k->o.fp k) (hp:o'.p= o.p):Step o o' w (w.setCell ⟨o.p,i,none⟩ v):= ⟨(Fr.refl _ _).setCell _ (.inl rfl) _,λk hk=> .inl (hfp k hk),hp⟩
theorem tD (h:Dk w o st):zF 146 #[zP o.p] w λe w'=>e= nf (.bool (Dm.cR st))/\ai o (Dm.bw st) w w':=by
 obtain ⟨_,_,_,t,l,k⟩:=h.reads;have s:=k 3;have r:=k 4;have n:=h.low;have q:=h.high;have b:=h.bj;have H:=hT h;clear k h;by_cases g:o.f= 0;·
  have j:(o.f == 0):=by simp [g]
  have a:Dm.bw st= {st with dead:=true}:=by unfold Dm.bw;rw [if_pos (by omega)]
  have c:Dm.cR st= false:=by unfold Dm.cR;simp;omega
  have d:=hT a;have i:=hT c;clear a c b g;go_enter func146,ntmps146;go_wp2;go_ret;exact ⟨by rw [i.out];rfl,by rw [d.out];exact ⟨_,H.out.He true,xT _ _ _ _ _ (λ_ h=>h) rfl⟩⟩
 ·have j:(o.f == 0)= false:=by simp [g]
  cases hdead:st.dead with
   | true =>
   have a:Dm.bw st= st:=by unfold Dm.bw;rw [if_neg (by omega),if_pos hdead]
   have c:Dm.cR st= false:=by unfold Dm.cR;simp [hdead]
   have d:=hT a;have i:=hT c;rw [hdead]at l;clear a c b g hdead;go_enter func146,ntmps146;go_wp2;go_ret;exact ⟨by rw [i.out];rfl,by rw [d.out];exact ai.refl H.out⟩
   | false =>
   have c:Dm.cR st:=by unfold Dm.cR;simp [hdead];omega
   have i:=hT c;by_cases m:0<o.f;·
    have a:Dm.bw st= Dm.fail st (o.f - 1):=by unfold Dm.bw Dm.fail;rw [if_neg (by omega),if_neg (by simp [hdead]),if_pos (by omega)];congr 1;omega
    have d:=hT a;rw [hdead]at l;clear a c b g hdead;go_enter func146,ntmps146;go_wp2;go_ret;exact ⟨by rw [i.out];rfl,by rw [d.out];exact ⟨_,H.out.Hc (o.f - 1) (by omega) (by omega),xT _ _ _ _ _ (λ_ h=>h) rfl⟩⟩
   ·have a:Dm.bw st= st:=by unfold Dm.bw;rw [if_neg (by omega),if_neg (by simp [hdead]),if_neg (by omega)]
    have d:=hT a;rw [hdead]at l;clear a c b g hdead;go_enter func146,ntmps146;go_wp2;go_ret;exact ⟨by rw [i.out];rfl,by rw [d.out];exact ai.refl H.out⟩
theorem Hg (h:Dk w o st):zF 171 #[zP o.p] w λe w'=>e= nf (CE #[])/\ai o {st with P:= []} w w':=by
 obtain ⟨_,h1,f,_,_,a⟩:=h.reads;have d:=a 1;have c:=a 2;have hp:=lt_of_heap h.head;have H:=hT h;have b:= @run_makeMap prog;clear a h;go_enter func171,ntmps171;go_wp2;go_end0;refine ⟨rfl,_,H.out.Hf,⟨?_,?_,rfl⟩⟩;· exact (((Fr.refl _ _).setCell ⟨o.p,1,none⟩ (.inl rfl) _).setCell ⟨o.p,2,none⟩ (.inl rfl) _).alloc _
 ·rintro k (hk|hk|hk|hk);· exact .inl (.inl hk)
  ·exact .inl (.inr (.inl hk))
  ·cases hk
  ·exact .inr (Nat.le_of_eq hk.symm)
variable{ops:Array Oper}{rest:List Oper}{a:Act}{Q:Exit→Act→World→Prop}
theorem qh {P:Program} {o:Oper} (i:o.guard= none) (d s:Operand) (dT sT:TypeId) (k:o.op= .call {callee:= .builtin .copy,args:=#[d,s],argTypes:=#[dT,sT]}) (elem:TypeId) (hu:P.underlying dT= some (.slice elem)) (e:(P.info? elem).map (·.size)= some 1) (g off dLen dCap:Nat) (l:zL) (hd:a.eval d= AF (some ⟨g,off,none⟩) dLen dCap) (j:a.eval s= .string (Om.B l)) (cur:zL) (t:TypeId) (m:w.heap[g]?= some (hV (KP cur).toArray t (0,0))) (f:l.length<=dLen) (c:off+l.length<=cur.length) (h:∀w',Hid (w'= w.setRow g (KP (cur.take off ++ l ++ cur.drop (off+l.length))).toArray)->wpList P ops Q rest (a.put o.dst (goInt l.length)) w'):wpList P ops Q (o :: rest) a w:=by refine wpList_plain i λK hK=>?_;have b:=Lib.run_copy_row_string (P:=P) w dT sT o.type elem g off dLen dCap (Om.B l) (KP cur).toArray t hu e m f (by simpa [KP,Om.aG] using c);unfold Oper.wp;simp [execOp,k,resolve,invoke,builtin,hd,j,b,Result.andThen];refine hK _ _ (h _ ?_);show _= _;congr 2;show _ ++ (KP (Om.L (Om.B l)) ++ _)= _;rw [Om.fx,Om.aG];simp [KP]
theorem jE {P:Program} {id:Nat} {l:List Oper} (n:Nat) (hm:P.follows .mixedOrders) (hB:Region.lexTailB .any l.toArray n) (h:∀w2,Hid (w2= w.drew)->wpStill P l.toArray w2 (λa'=>wpList P l.toArray Q (l.drop n) a' w2) (l.take n) a):(Code.region id l.toArray true).wp P Q a w:= wp_region_still_tail n hm hB (h w.drew (show _= _ from rfl))
theorem kV:(prog.info? 5).map (·.size)= some 1:=by kernel_rfl
theorem Dk.Hh (h:Dk w o st) (k:Nat) (l:zL) (b:l.length= 64):Dk (w.setRow o.sb (KP ((st.S.set k l).flatten ++ o.sp)).toArray) o {st with S:=st.S.set k l}:=by
 obtain ⟨a1,a2,c,a3⟩:=h.apart;obtain ⟨D,n,hm,r⟩:=h.jA;refine ⟨⟨?_,λx a=>by rw [TB];exact h.ok.writes x a,h.ok.bj,by rw [TB];exact h.ok.aS⟩,?_,setRow_heap _ _ _ _ _ _ h.stands,?_,⟨D,n,iF hm (setRow_other _ _ _ _ c),r⟩,h.bj,h.low,h.high⟩;·
  intro x a;rcases List.mem_or_eq_of_mem_set a with h1|h1;· exact h.ok.fA x h1
  ·rw [h1];exact b
 ·rw [setRow_other _ _ _ _ (Vm a1),h.head,TB]
 ·exact bc h.bQ λk hk=>setRow_other _ _ _ _ (a3 k hk).2.1
theorem Hi (h:Dk w o st) (k:Nat) (l:zL) (hk:k<st.S.length) (v:l.length= 64): zF 170 #[zP o.p, .agg #[zI k, .string (Om.B l)]] w λe w'=>e= nf (CE #[])/\Dk w' o {st with S:=st.S.set k l}/\Step o o w w':=by
 obtain ⟨j,_,_,_,_,D⟩:=h.reads;have hp:=lt_of_heap h.head;have i:=h.stands;have f:=h.ok.aS;have b:=Dm.ix h.ok.fA;have d:=Dm.Dt h.ok.fA k hk l;obtain ⟨n,u⟩:=eX1 st.S.length;rw [<-u]at j f hk b;obtain ⟨N,x⟩:=eX1 (64*n);obtain ⟨K,y⟩:=eX1 (64*k);rw [<-x]at j b;rw [<-y]at d;obtain ⟨C,z⟩:=eX1 (N+o.sp.length);rw [<-z]at j;have E:K+64<=N:=by omega
 have A:lg.wrap ((k:Int) *64)= (K:Int):=by rw [rr _ (by omega)];omega
 have b1:(K:Int)<=(N:Int):=by omega
 have b2:¬C= K:=by omega
 have b3:K<=N:=by omega
 clear x y hk f z;have H:=hT h;have m:=hT i;have t:=hT b;have r:=hT v;have q:=hT d;clear D h i b v d u;go_enter func170,ntmps170;go_wp2;have c0:(w.alloc (hV #[zI k, .string (Om.B l)] 216)).cell? (zD o.p 0)= w.cell? (zD o.p 0):=by exact TZ (w:=w) (a:=(zD o.p 0)) (PC _ _ _ hp)
 refine jE 10 (by kernel_rfl) (by kernel_rfl) ?_;intro w2 c;have g0:w2.cell? (zD o.p 0)= some (zS o.sb N C):=by rw [c.out];exact c0.trans j
 have g1:w2.cell? (zz w 0)= some (zI k):=by rw [c.out];show (w.alloc _).cell? _= _;rw [VZ _ _ _ _ rfl];rfl
 have g2:w2.cell? (zz w 1)= some (.string (Om.B l)):=by rw [c.out];show (w.alloc _).cell? _= _;rw [VZ _ _ _ _ rfl];rfl
 have gs:w2.heap[o.sb]?= some (hV (KP (st.S.flatten ++ o.sp)).toArray 5 (0,0)):=by rw [c.out];exact (PC _ _ _ (lt_of_heap m.out)).trans m.out
 have G:=hT gs;clear c0 gs j;simp only [UZ,Tj,U0,TA];repeat still_step
 refine wpStill_nil ?_;refine qh rfl _ _ _ _ rfl 5 underlying79 kV o.sb K (N - K) (C - K) l rfl rfl _ _ G.out (by rw [r.out];omega) (by rw [r.out,DC,t.out];omega) ?_;intro w3 s;go_wp2;go_end0;have g:zB w w2:=by rw [c.out];exact zA.drew
 have F:w3= w2.setRow o.sb (KP ((st.S.set k l).flatten ++ o.sp)).toArray:=by rw [s.out,q.out,r.out,Uq (by rw [t.out];omega),Ur (by rw [t.out];omega)];simp only [NR]
 rw [F];refine ⟨rfl,(H.out.below g).Hh k l r.out,⟨(Fr.ax g).setRow _ (.inr (.inl rfl)) _,λ_ h=> .inl h,rfl⟩⟩
theorem xU {P:Program} (w:World) (t ty e:TypeId) (i:TypeInfo) (z:Value) (size bytes:Nat) (y:P.underlying t= some (.slice e)) (hi:P.info? e= some i) (C:i.zero= some z) (h:i.size= size) (s:i.bytes= bytes) (B:z.cells.size= size) (E:0<size) (v:Value) (n:Nat) (xs:List Value) (f:w.ownsRow 0 e size v n xs) (a:Addr) (m c:Nat) (news:List Value) (q:news.length= m*size) (b:∀j u,news[j]?= some u->w.cell? (a.add j)= some u) (h1:∀u∈news,u.oneCell') (x:n+m<=maxLen) (d:(n+m) *bytes<=140737488355328): ∃v' w',(Builtin.append_ #[t,t] ty #[v, AF (some a) m c]).run P w= .ok v' w'/\w'.ownsRow 0 e size v' (n+m) (xs ++ news)/\w.grownBy w' v.ownBlock/\(v'.ownBlock= v.ownBlock\/v'.ownBlock= some w.heap.size):=by
 obtain ⟨v',w',o,H,J,p⟩:=run_append_own (P:=P) w 0 t ty e i z size bytes y hi C h s B E v n xs f a m c news q b h1 x d (yb _);refine ⟨v',w',o,H,J,?_⟩;subst h;subst s;have A:n+m<=9223372036854775807:=by simp only [maxLen]at x;omega
 rcases f.2 with ⟨rfl,rfl⟩|⟨g,cap,cur,rfl,L,F,I,K,G,D⟩;·
  by_cases hm:m= 0;· left;rw [p.2 ⟨rfl,hm⟩]
  ·have l:=run_append_nil (P:=P) w t ty e i z y hi C a m c news q b (by omega) (by omega) (by have M:=d;simp only [Nat.zero_add]at M;omega);rw [l]at o;injection o with hv _;subst hv;exact .inr rfl
 ·by_cases k:n+m<=cap;·
   have r:n*i.size+news.length<=cur.size:=by rw [q,G,<-Nat.add_mul];exact Nat.mul_le_mul_right _ k
   have l:=run_append_room (P:=P) w t ty e i y hi g n cap cur F a m c news q b h1 k r;rw [l]at o;injection o with hv _;subst hv;exact .inl rfl
  ·have l:=run_append_grow (P:=P) w t ty e i z y hi C ⟨g,0,none⟩ n cap xs f.1 (f.cells (g:=g) rfl) a m c news q b (by omega) (by omega) (growslice_fits (by omega) d);rw [l]at o;injection o with hv _;subst hv;exact .inr rfl
theorem nZ {P:Program} {o:Oper} (p:o.guard= none) (s x:Operand) (t:TypeId) (E:o.op= .call {callee:= .builtin .append,args:=#[s,x],argTypes:=#[t,t]}) (e:TypeId) (i:TypeInfo) (z:Value) (size bytes:Nat) (B:P.underlying t= some (.slice e)) (hi:P.info? e= some i) (y:i.zero= some z) (d:i.size= size) (q:i.bytes= bytes) (k:z.cells.size= size) (l:0<size) (v:Value) (n:Nat) (xs:List Value) (C:a.eval s= v) (g:w.ownsRow 0 e size v n xs) (ad:Addr) (m c:Nat) (news:List Value) (A:a.eval x= AF (some ad) m c) (F:news.length= m*size) (f:∀j u,news[j]?= some u->w.cell? (ad.add j)= some u) (h1:∀u∈news,u.oneCell') (r:n+m<=maxLen) (b:(n+m) *bytes<=140737488355328) (h:∀v' w',w'.ownsRow 0 e size v' (n+m) (xs ++ news)->w.grownBy w' v.ownBlock->(v'.ownBlock= v.ownBlock\/v'.ownBlock= some w.heap.size)->wpList P ops Q rest (a.put o.dst v') w'):wpList P ops Q (o :: rest) a w:=by refine wpList_plain p λK hK=>?_;obtain ⟨v',w',D,I,H,G⟩:=xU (P:=P) w t o.type e i z size bytes B hi y d q k l v n xs g ad m c news F f h1 r b;unfold Oper.wp execOp;simp only [E,resolve,invoke,builtin,Sem.run_bind,Sem.run_pure,Result.andThen_ok,List.map_toArray,List.map_cons,List.map_nil,C,A,D];exact hK _ _ (h v' w' I H G)
theorem Hj:(prog.info? 216).map (λi=>(i.zero,i.size,i.bytes))= some (some (.agg #[zI 0, .string ⟨#[]⟩]),2,24):=by kernel_rfl
theorem ik:Maps.Keyed prog 3:=Maps.int_keyed underlying3
theorem qi (h:Dk w o st) (k:Nat) (l:zL) (hk:k<st.S.length) (hl:l.length= 64) (hP:st.P.length<=1099511627776): zF 147 #[zP o.p, .int lg k, .string (Om.B l)] w λe w'=>e= nf (CE #[])/\ai o (Dm.put st k l) w w':=by
 obtain ⟨i0,hi,V,U,T⟩:=info_parts Hj;obtain ⟨_,h1,h2,_,_,hf⟩:=h.reads;have hp:=lt_of_heap h.head;have aw:=h.ok.aS;obtain ⟨pa,pc,t⟩:=ck h.bQ;obtain ⟨D,R,hm,Y,F⟩:=h.jA;obtain ⟨a1,a2,a4,a3⟩:=h.apart;have g:=h.bQ;rw [t]at h1 g;obtain ⟨n,E⟩:=eX1 st.P.length;have HO:Hid (w.ownsRow 0 216 2 (.slice pa n pc) n (gA st.P)):=by rw [E];exact g
 rw [<-E]at h1 hP Y;have H:=hT h;have HM:=hT hm;have af:=hT F;have f:Hid (o.pv= .slice pa n pc):=by rw [E];exact t
 have Q:=hT E;have HH:=hT h.head;clear hf h hm F t g E;go_enter func147,ntmps147;go_wp2;refine jE 10 (by kernel_rfl) (by kernel_rfl) ?_;intro w2 a;have g1:w2.cell? (zD o.p 1)= some (.slice pa n pc):=by rw [a.out];exact h1
 have g2:w2.cell? (zD o.p 2)= some (.map (some o.mb)):=by rw [a.out];exact h2
 have GM:=hT (show w2.ownsMap _ _ _ _ _ _ by rw [a.out];exact HM.out.drew);clear h1 h2;simp only [UZ,Tj,U0,TA];repeat still_step
 refine wpStill_nil ?_;refine wpList_mapUpdate_own _ rfl _ _ _ 80 rfl 3 3 ik underlying80 _ o.mb R D rfl GM.out (by unfold maxLen;omega) _ _ (.int lg k) rfl rfl (X4 underlying3 (WS (by omega))) (.lit (.int lg n)) [] (plainElem_int underlying3 (WS (by omega))) ?_;intro w3 G r;have x:w3.heap[o.p]?= some (hV (o.cells (64*st.S.length) st.dead) 83 (0,0)):=by rw [r.block o.p (by rw [a.out];exact hp) (by simpa using Vm a2),a.out];exact HH.out
 have e1:w3.cell? (zD o.p 1)= some (.slice pa n pc):=by rw [cell_of_row _ _ _ _ _ _ x,<-f.out];rfl
 have ad:Hid (w3.ownsRow 0 216 2 (.slice pa n pc) n (gA st.P)):=by
  refine bc HO.out λj c=>?_;have I:o.pv.ownBlock= some j:=by rw [f.out];exact c
  rw [r.block j (by rw [a.out];exact H.out.lt j (.inr (.inr (.inl I)))) (by simpa using (a3 j I).2.2),a.out];rfl
 have ao:=hT G;have m:=hT r;have M:=hT x;clear G r x g1 g2;go_wp2_with (at_builtin;refine nZ rfl _ _ 81 rfl 216 i0 _ 2 24 underlying81 hi V U T rfl (by decide) _ _ _ rfl (ad.out.alloc _) ⟨w3.heap.size,0,none⟩ 1 1 [.int lg k, .string (Om.B l)] rfl rfl ?c1 ?c2 ?c3 ?c4 ?_);case c1=>
  intro j u hu;rcases j with _|_|j;· injection hu with hu;subst hu;exact VZ _ _ _ _ rfl
  ·injection hu with hu;subst hu;exact VZ _ _ _ _ rfl
  ·simp at hu
 case c2=>
  intro u hu;rcases List.mem_cons.1 hu with rfl|hu;· rfl
  ·rw [H5.1 hu];rfl
 case c3=>unfold maxLen;omega
 case c4=>omega
 intro v4 s d y C;have q:s.heap[o.p]?= some (hV (o.cells (64*st.S.length) st.dead) 83 (0,0)):=by have X:=lt_of_heap M.out;rw [y.block o.p (by simp;omega) (λe=>(a3 o.p (by rw [f.out];exact e.symm)).1 rfl),PC _ _ _ X];exact M.out
 have e4:s.cell? (zD o.p 1)= some (.slice pa n pc):=by rw [cell_of_row _ _ _ _ _ _ q,<-f.out];rfl
 have f4:s.frozen? (zD o.p 1)= false:=frozen_of_row _ _ _ _ _ q;obtain ⟨O,N,rfl⟩:=ck d;have K:=hT d;have i:=hT y;have ab:=hT C;have L:=hT q;clear d y q C;go_wp2;go_end0;have bb:w.heap.size<=w3.heap.size:=by have:=m.out.size;rw [a.out]at this;exact this
 have ba:w3.heap.size<s.heap.size:=by have:=i.out.size;simp at this;omega
 have J:∀j,j<w.heap.size->j≠o.mb->w3.heap[j]?= w.heap[j]?:=λj c hne=>by rw [m.out.block j (by rw [a.out];exact c) (by simpa using hne),a.out];rfl
 have z:∀j,j<w3.heap.size->o.pv.ownBlock≠some j->s.heap[j]?= w3.heap[j]?:=λj c hne=>by rw [i.out.block j (by simp;omega) (λe=>hne (by rw [f.out];exact e.symm)),PC _ _ _ c]
 have W:=lt_of_heap H.out.stands;have bf:=H.out.lt o.mb (.inr (.inr (.inr rfl)));have Z:∀j,(AF O (n+1) N).ownBlock= some j->j≠o.p:=λj c e=>by obtain ⟨cur,A⟩:=bV K.out j c;rw [e,L.out]at A;injection A with A;injection A with _ A;cases A
 refine ⟨rfl,{o with pv:= .slice O (n+1) N},?_,⟨?_,?_,rfl⟩⟩;·
  refine ⟨Dm.lT H.out.ok k l hk hl,?_,?_,?_,⟨_,R+1,iF (iF ao.out (z _ (show o.mb<_ by omega) λe=>(a3 _ e).2.2 rfl)) (L2 _ _ _ _ a2),?_,?_⟩,H.out.bj,H.out.low,H.out.high⟩;· rw [heap_setCell_same _ _ _ _ _ _ L.out];rfl
  ·rw [L2 _ _ _ _ a1,z _ (by omega) (λe=>(a3 _ e).2.1 rfl),J _ W (Vm a4)];exact H.out.stands
  ·have:=bc K.out (w':=s.setCell ⟨o.p,1,none⟩ (.slice O (n+1) N)) λj c=>L2 _ _ _ _ (Z j c);rw [Q.out,<-F_]at this;show Tt _ _ _ _ _ (st.P ++ [(k,l)]).length (gA (st.P ++ [(k,l)]));rw [DC,Q.out];exact this
  ·show R+1<=(st.P ++ [(k,l)]).length;rw [DC,<-Q.out];simp;omega
  ·have:=Ga af.out k l;rw [<-Q.out]at this;exact this
 ·refine Fr.setCell (b:=s) ⟨?_,?_,?_,by omega,λj c hF=>?_⟩ _ (.inl rfl) _;· rw [i.out.os];show w3.os= _;rw [m.out.os,a.out];rfl
  ·rw [i.out.tape];show w3.tape= _;rw [m.out.tape,a.out];rfl
  ·rw [i.out.output];show w3.output= _;rw [m.out.output,a.out];rfl
  ·rw [z j (by omega) (λe=>hF (.inr (.inr (.inl e)))),J j c (λe=>hF (.inr (.inr (.inr e))))]
 ·rintro j (c|c|c|c);· exact .inl (.inl c)
  ·exact .inl (.inr (.inl c))
  ·rcases ab.out with e|e;· exact .inl (.inr (.inr (.inl (by rw [f.out,<-e];exact c))))
   ·right;have v:(AF O (n+1) N).ownBlock= some j:=c;rw [e]at v;injection v with v;have bg:(w3.alloc (hV #[.int lg k, .string (Om.B l)] 216)).heap.size= w3.heap.size+1:=by simp
    omega
  ·exact .inl (.inr (.inr (.inr c)))
theorem xV:(prog.info? 5).map (λi=>(i.zero,i.size,i.bytes))= some (some (.int .u8 0),1,1):=by kernel_rfl
def Made (st:Dm.St) (B:Nat) (w:World) (e:Ending) (w':World):Prop:=∃o,e= nf (zP o.p)/\Dk w' o st/\(∀k,o.fp k->B<=k)/\Below B w w'
theorem xW (n:Nat):(madeCells #[.int .u8 0] n).toList= KP (vw n 0):=by rw [toList_madeCells_one (.int .u8 0) n,KP,List.map_replicate];rfl
theorem je (n:Nat) (w:World) (h:n<=1048576):zF 11 #[zI n] w λe w'=>Made (Dm.fresh n) w.heap.size w e w':=by
 obtain ⟨r,hi,j,i,f⟩:=info_parts xV;have t:= @run_makeMap prog;obtain ⟨N,o⟩:=eX1 (n*64);have y:(n:Int) *64= (N:Int):=by omega
 have q:=hT o;have z:N<=67108864:=by omega
 have hd:decide ((n:Int) <0)= false:=by simp
 clear o;go_enter func11,ntmps11;go_wp2_with (first|(at_make;refine wpList_make_full _ rfl _ _ 79 rfl 0 5 r _ 1 underlying79 hi j i _ _ _ _ N rfl rfl rfl rfl ?b2 ?b3 ?b4 ?_));case b2=>rw [f];omega
 case b3=>unfold maxLen;omega
 case b4=>omega
 intro w1 a d;have p:=hT a;have A:=hT d;clear a d;go_wp2;go_ret;have m:w.heap.size<w1.heap.size:=by have:=(p.out.lt w.heap.size rfl).2;exact this
 have c:w1.heap[w.heap.size]?= some (hV (KP (vw N 0)).toArray 5 (0,0)):=by
  rcases p.out.2 with ⟨h1,_⟩|⟨g,cap,cur,s,_,u,_,_,v,l⟩;· cases h1
  ·injection s with h1 _ h3;injection h1 with h1;injection h1 with h1;subst h1;subst h3;rw [u,<-xW N,<-l,OP (by rw [VH];omega)]
 have b:(Dm.fresh n).S.flatten= vw N 0:=by rw [Dm.sd,q.out,SH]
 have hlen:64* (Dm.fresh n).S.length= N:=by rw [q.out];simp [Dm.fresh];omega
 refine ⟨⟨w1.heap.size+1,w.heap.size, AF none 0 0,w1.heap.size, -1, []⟩,rfl,⟨Dm.Dy n h,?_,?_,Ts _ _ _ _,⟨.map [],0,?_,nm _,xE⟩,(show max (-1:Int) (-1)= -1 by decide),(show (-9223372036854775808:Int)<= -1 by decide),(show (-1:Int)<=9223372036854775807 by decide)⟩,?_,?_⟩;· rw [hlen];exact (by simp:w1.heap.size+1= (w1.alloc (.map #[] 0)).heap.size)▸heap_alloc_new (w1.alloc (.map #[] 0)) _
 ·rw [Uj,b,PC _ _ _ (by simp;omega),PC _ _ _ m];exact c
 ·exact (WN w1 prog 3 _).alloc _
 ·rintro k (hk|hk|hk|hk);· show w.heap.size<=k;rw [hk];show w.heap.size<=w1.heap.size+1;omega
  ·show w.heap.size<=k;rw [hk];exact nm _
  ·cases hk
  ·show w.heap.size<=k;rw [hk];show w.heap.size<=w1.heap.size;omega
 ·have x:=zR.grown A.out (nm _) (λk e=>by cases e);exact (x.alloc (by omega) _).alloc (by simp;omega) _
variable{l:zL}{w1:World}
theorem xX {w2:World} (d:n= (l.length+63) / 64) (b:n<=1048576) (hd:Dk w1 o (Dm.fresh n)) (a:∀k,o.fp k->w.heap.size<=k) (f:zB w w1) (c:w2= w1.setRow o.sb (KP ((vw (64*n) 0 ++ o.sp).take 0 ++ l ++ (vw (64*n) 0 ++ o.sp).drop (0+l.length))).toArray): Made (Dm.load l) w.heap.size w (nf (zP o.p)) w2:=by
 obtain ⟨a1,a2,g,a3⟩:=hd.apart;obtain ⟨D,m,hm,r⟩:=hd.jA;have hp:(vw (64*n) 0 ++ o.sp).take 0 ++ l ++ (vw (64*n) (0:UInt8) ++ o.sp).drop (0+l.length)= Dm.pad l ++ o.sp:=by rw [Ur (by rw [Tq];omega),X5];simp only [Tj,List.nil_append,Dm.pad,NR];congr 3;omega
 rw [hp]at c;subst c;have hlen:(Dm.load l).S.length= (Dm.fresh n).S.length:=by rw [Dm.vY,<-d];simp [Dm.fresh]
 refine ⟨o,rfl,⟨Dm.lS l (by omega),?_,?_,bc hd.bQ λk hk=>setRow_other _ _ _ _ (a3 k hk).2.1,⟨D,m,iF hm (setRow_other _ _ _ _ g),r⟩,hd.bj,hd.low,hd.high⟩,a,?_⟩;· rw [setRow_other _ _ _ _ (Vm a1),hd.head,hlen];rfl
 ·rw [Dm.r_];exact setRow_heap _ _ _ _ _ _ hd.stands
 ·exact f.trans ⟨rfl,rfl,rfl,by simp,λk hk=>setRow_other _ _ _ _ (λe=>by have:=a o.sb (.inr (.inl rfl));omega)⟩
theorem tE (l:zL) (w:World) (h:l.length<=67108864):zF 19 #[.string (Om.B l)] w λe w'=>Made (Dm.load l) w.heap.size w e w':=by
 have z:=Om.aG l;obtain ⟨n,q⟩:=eX1 l.length;rw [<-q]at z h;have g:=hT q;clear q;by_cases A:n % 64= 0;·
  obtain ⟨m,hm⟩:=eX1 ((n+63) / 64);have s:((n:Int) % 64 != 0)= false:=by simp;omega
  have r:(n:Int) / 64= (m:Int):=by omega
  have i:=je m w (by omega);have x:=hT i;have t:=hT hm;have d:m<=1048576:=by omega
  have p:n<=64*m:=by omega
  clear i hm;go_enter func19,ntmps19;go_wp2_with fail;refine x.out.mono ?_;rintro e w1 ⟨o,rfl,hd,b,j⟩;obtain ⟨g0,_⟩:=hd.reads;have a:=hd.stands;rw [Dm.sd]at a;have k:(Dm.fresh m).S.length= m:=by simp [Dm.fresh]
  rw [k]at g0;have v:=hT hd;have u:=hT b;have y:=hT j;have f:=hT a;clear hd b j a k;go_wp2_with (refine qh rfl (.tmp 21) (.tmp 22) 79 9 rfl 5 underlying79 kV o.sb 0 (64*m) (64*m+o.sp.length) l rfl rfl _ _ f.out (by rw [<-g.out];omega) (by rw [<-g.out,DC,Tq];omega) ?_;intro w2 c);go_ret;exact xX (by rw [t.out,g.out]) d v.out u.out y.out c.out
 ·obtain ⟨m,hm⟩:=eX1 ((n+63) / 64);have s:((n:Int) % 64 != 0):=by simp;omega
  have r:(n:Int) / 64+1= (m:Int):=by omega
  have i:=je m w (by omega);have x:=hT i;have t:=hT hm;have d:m<=1048576:=by omega
  have p:n<=64*m:=by omega
  clear i hm;go_enter func19,ntmps19;go_wp2_with fail;refine x.out.mono ?_;rintro e w1 ⟨o,rfl,hd,b,j⟩;obtain ⟨g0,_⟩:=hd.reads;have a:=hd.stands;rw [Dm.sd]at a;have k:(Dm.fresh m).S.length= m:=by simp [Dm.fresh]
  rw [k]at g0;have v:=hT hd;have u:=hT b;have y:=hT j;have f:=hT a;clear hd b j a k;go_wp2_with (refine qh rfl (.tmp 21) (.tmp 22) 79 9 rfl 5 underlying79 kV o.sb 0 (64*m) (64*m+o.sp.length) l rfl rfl _ _ f.out (by rw [<-g.out];omega) (by rw [<-g.out,DC,Tq];omega) ?_;intro w2 c);go_ret;exact xX (by rw [t.out,g.out]) d v.out u.out y.out c.out
theorem jF (w:World):(zeroValue 3).run prog w= .ok (zI 0) w:=by kernel_rfl
theorem Hk {P:Program} {o:Oper} (k:o.guard= none) (d s:Operand) (dT sT:TypeId) (m:o.op= .call {callee:= .builtin .copy,args:=#[d,s],argTypes:=#[dT,sT]}) (elem:TypeId) (hu:P.underlying dT= some (.slice elem)) (e:(P.info? elem).map (·.size)= some 1) (g off dLen dCap sb so fa sCap:Nat) (hd:a.eval d= AF (some ⟨g,off,none⟩) dLen dCap) (l:a.eval s= AF (some ⟨sb,so,none⟩) fa sCap) (cur src:zL) (t t':TypeId) (q:w.heap[g]?= some (hV (KP cur).toArray t (0,0))) (f:w.heap[sb]?= some (hV (KP src).toArray t' (0,0))) (i:fa<=dLen) (p:so+fa<=src.length) (b:off+fa<=cur.length) (h:∀w',Hid (w'= w.setRow g (KP (cur.take off ++ (src.drop so).take fa ++ cur.drop (off+fa))).toArray)->wpList P ops Q rest (a.put o.dst (goInt fa)) w'):wpList P ops Q (o :: rest) a w:=by
 have hlen:(KP ((src.drop so).take fa)).length= fa:=by rw [Uy,E4,IV];omega
 refine wpList_copy_own k d s dT sT m elem hu e g off dLen dCap ⟨sb,so,none⟩ fa sCap hd l _ t q (KP ((src.drop so).take fa)) (by rw [hlen];exact (UQ i).symm) ?_ (by rw [hlen];simpa [KP] using b) (Lib.byteCells_one _) ?_;·
  intro j v c;have n:j<fa:=by have:=(C2.1 c).1;omega
  have:(⟨sb,so,none⟩:Addr).add j= ⟨sb,so+j,none⟩:=by unfold Addr.add;split<;>simp_all
  rw [this,cell_of_row _ _ _ _ _ _ f];rw [KP,List.getElem?_map,List.getElem?_take,if_pos n,List.getElem?_drop]at c;simpa [KP] using c
 ·rw [hlen];refine h _ ?_;show _= _;congr 2;simp [KP]
theorem Hl (h:Dk w o st) (k:Nat) (hk:k<st.S.length) (g off n:Nat) (cur:zL) (J:w.heap[g]?= some (hV (KP cur).toArray 5 (0,0))) (ad:¬o.fp g) (hn:64<=n) (E:off+64<=cur.length) (hP:st.P.length<=1099511627776): zF 153 #[zP o.p, AF (some ⟨g,off,none⟩) n n, .int lg k] w λe w'=>e= nf (CE #[])/\w'= w.setRow g (KP (cur.take off ++ Dm.one st k ++ cur.drop (off+64))).toArray:=by
 obtain ⟨L,h1,h2,_,_,V⟩:=h.reads;obtain ⟨D,R,hm,ab,t⟩:=h.jA;have l:=Dm.si h.ok k hk;have U:=h.ok.aS;have HM:=hT hm;have q:=hT (X4 underlying3 (WS (n:=(k:Int)) (by omega)));have HG:=hT J;have m:=hT l;rcases t.2 k with ⟨m1,y⟩|⟨i,d,m1,y,I,T⟩;·
  have W:Dm.one st k= st.S.getD k []:=Dm.DI y _;have b:=Dm.lR h.ok.fA k hk;have z:=h.stands;have u:=Dm.ix h.ok.fA;obtain ⟨N,X⟩:=eX1 (64*st.S.length);obtain ⟨K,Y⟩:=eX1 (64*k);have aw:K+64<=N:=by omega
  have ao:N<=67108864:=by omega
  have af:lg.wrap ((k:Int) *64)= (K:Int):=by rw [rr _ (by omega)];omega
  have b1:(K:Int)<=(N:Int):=by omega
  rw [<-X]at L u;rw [<-Y]at b;obtain ⟨C,Z⟩:=eX1 (N+o.sp.length);rw [<-Z]at L;have b:((st.S.flatten ++ o.sp).drop K).take 64= st.S.getD k []:=by rw [Ur (by omega),Uq (by rw [IV];omega)];exact b
  have ba:N<=C:=by omega
  clear Z;have b2:¬C= K:=by omega
  have b4:64<=C - K:=by omega
  have b5:(64:Int)<=((C - K:Nat):Int):=by omega
  have M:=hT z;have H:=hT b;have HE:=hT W;have O:=hT u;clear hm t J l z b W u X Y V h h1 y hk;go_enter func153,ntmps153;go_wp2_with (first|(at_lookup;refine wpList_lookup_own_ok_int _ rfl _ _ 80 rfl 3 3 lg ik underlying80 underlying3 (jF _) o.mb R D rfl HM.out _ (.int lg k) rfl q.out ?_;intro c v r;clear v r)|(refine Hk rfl (.tmp 28) (.tmp 36) 79 79 rfl 5 underlying79 kV g off n n o.sb K 64 (C - K) rfl rfl _ _ _ _ HG.out M.out hn (by rw [DC,O.out];omega) E ?_;intro w2 s));go_end0;exact ⟨rfl,by rw [s.out,H.out,HE.out];simp only [NR]⟩
 ·have hd:Dm.one st k= d:=T _;have hi:=(C2.1 I).1;have F:st.P[i]= (k,d):=(C2.1 I).2;obtain ⟨pa,pc,A⟩:=ck h.bQ;have j:=h.bQ;rw [A]at h1 j;have f:=(xD st.P i hi).2;rw [F]at f;rcases j.2 with ⟨_,hz⟩|⟨gg,cap,cc,hv,_⟩;· omega
  ·injection hv with hv1 _ hv3;subst hv1;subst hv3;have v:=j.cellAt (2*i+1) (by omega);rw [f,SH]at v;have x:=y (.lit (.int lg 0));obtain ⟨n0,B⟩:=eX1 st.P.length;rw [<-B]at h1 hi hP;have M2:=hT x;have Q:=hT hd;clear hm t J l V h L y x I T A j f F B hd;go_enter func153,ntmps153;go_wp2_with (first|(at_lookup;refine wpList_lookup_own_ok_int _ rfl _ _ 80 rfl 3 3 lg ik underlying80 underlying3 (jF _) o.mb R D rfl HM.out _ (.int lg k) rfl q.out ?_;intro c a r;rw [M2.out]at a;injection a with a;injection a with _ a;subst a;clear r)|(refine qh rfl (.tmp 18) (.tmp 26) 79 9 rfl 5 underlying79 kV g off n n d rfl rfl _ _ HG.out (by rw [<-Q.out,m.out];omega) (by rw [<-Q.out,m.out];omega) ?_;intro w2 s));refine bodyPost_ret (results_none rfl _ _ _) rfl ?_;refine ⟨rfl,?_⟩;have G:=m.out;rw [Q.out]at G⊢;rw [s.out,G];simp only [NR]
theorem Hn {W:World} {g cap:Nat} {sp:zL} {t:TypeId} (b:W.heap[g]?= some (hV (KP (l ++ sp)).toArray t (0,0))) (a:l.length= n): (convert 79 9 (zS g n cap)).run prog W= .ok (.string (Om.B l)) W:=by subst a;exact run_convert_bytes_back (P:=prog) W 79 9 5 ⟨g,0,none⟩ cap l underlying79 underlying5 underlying9 (λi hi=>by rw [show (⟨g,0,none⟩:Addr).add i= ⟨g,i,none⟩ from by unfold Addr.add;split<;>simp_all,cell_of_row _ _ _ _ _ _ b];rw [List.getElem?_toArray,Lib.byteCells_append,TE (by rw [Uy];exact hi)];simp [KP,hi])
def half (st:Dm.St) (a n k:Nat):zL:=Dm.span st a k ++ vw (64* (n - k)) 0
theorem xY (h:Dm.Ok st) {a n k:Nat} (hk:k<=n) (b:a+n<=st.S.length):(half st a n k).length= 64*n:=by unfold half;rw [DC,Dm.po h a k (by omega),Tq];omega
theorem Ho (h:Dm.Ok st) {a n k:Nat} (hk:k<n) (c:a+n<=st.S.length): (half st a n k).take (64*k) ++ Dm.one st (a+k) ++ (half st a n k).drop (64*k+64)= half st a n (k+1):=by have b:=Dm.po h a k (by omega);unfold half;rw [Dm.sj,<-b,List.take_left,<-List.drop_drop,List.drop_left,X5,NR,NR];congr 3;omega
theorem Hq (st:Dm.St) (a n:Nat):half st a n 0= vw (64*n) 0:=by simp [half,Dm.span]
theorem Hr (st:Dm.St) (a n:Nat):half st a n n= Dm.span st a n:=by simp [half]
theorem Hs {N:Nat} (h:w1.ownsRow w.heap.size 5 1 (zS w.heap.size N N) N (madeCells #[.int .u8 0] N).toList):w1.heap[w.heap.size]?= some (hV (KP (vw N 0)).toArray 5 (0,0)):=by
 rcases h.2 with ⟨h1,_⟩|⟨g,cap,cur,b,_,c,_,_,d,a⟩;· cases h1
 ·injection b with h1 _ h3;injection h1 with h1;injection h1 with h1;subst h1;subst h3;rw [c,<-xW N,<-a,OP (by rw [VH];omega)]
theorem Ht (h:Dk w o st) (a n:Int) (j:a<=9223372036854775807) (c:st.dead= true\/Dm.dn st a n= false): zF 98 #[zP o.p,zI a,zI n] w λe w'=>e= zV (.string (Om.B (Dm.aA st a n))) (zI (Dm.aY st a n))/\w= w':=by obtain ⟨_,_,_,_,i,_⟩:=h.reads;cases hdead:st.dead with
 | true =>
 have d:Dm.aA st a n= []:=by unfold Dm.aA;rw [if_pos hdead]
 have f:Dm.aY st a n= 41:=by unfold Dm.aY;rw [if_pos hdead]
 rw [d,f];rw [hdead]at i;clear d f hdead c h;go_enter func98,ntmps98;go_wp2;go_ret2;exact ⟨rfl,rfl⟩
 | false =>
 have b:=c.resolve_left (by rw [hdead];decide);have d:Dm.aA st a n= []:=by unfold Dm.aA;rw [if_neg (by rw [hdead];decide),b];rfl
 have f:Dm.aY st a n= 2:=by unfold Dm.aY;rw [if_neg (by rw [hdead];decide),b];rfl
 rw [d,f];rw [hdead]at i;have g:=qg h a n j;rw [b]at g;have k:=hT g;clear d f hdead c h b g;go_enter func98,ntmps98;go_wp2_with (go_at_call 145;refine zh k.out ?_);go_ret2;exact ⟨rfl,rfl⟩
theorem xZ (h:Dk w o st) (a n:Nat) (c:st.dead= false) (u:a+n<=st.S.length) (O:st.P.length<=1099511627776): zF 98 #[zP o.p,zI a,zI n] w λe w'=>e= zV (.string (Om.B (Dm.span st a n))) (zI 0)/\zB w w':=by
 obtain ⟨J,hi,s,r,q⟩:=info_parts xV;obtain ⟨_,_,_,_,U,_⟩:=h.reads;have D:=h.ok.aS;have x:=qg h (a:Int) (n:Int) (by omega);rw [(Dm.fb st a n).2 ⟨by omega,by omega,by omega⟩]at x;rw [c]at U;have V:=hT x;have H:=hT h;obtain ⟨N,E⟩:=eX1 (64*n);have Q:(n:Int) *64= (N:Int):=by omega
 have R:N<=67108864:=by omega
 have A:=hT E;clear x h E c;go_enter func98,ntmps98;go_wp2_with (first|(go_at_call 145;refine zh V.out ?_)|(at_make;refine wpList_make_full _ rfl _ _ 79 rfl w.heap.size 5 J _ 1 underlying79 hi s r _ _ _ _ N rfl rfl rfl rfl ?b2 ?b3 ?b4 ?_));case b2=>rw [q];omega
 case b3=>unfold maxLen;omega
 case b4=>omega
 intro w1 d l;have G:=hT (Hs d);have m:=zR.grown l (nm _) (λk e=>by cases e);clear d l;have I:=hT m;clear m;go_wp2;go_loopw [28] (λi wr=>∃k:Nat,k<=n/\i= zI k/\Hid (wr.heap[w.heap.size]?= some (hV (KP (half st a n k)).toArray 5 (0,0)))/\Hid (zB w wr)) (λi _=>n - (CS i).toNat);case atStart=>exact ⟨0,yb _,rfl,(by rw [Hq,<-A.out];exact G.out),I⟩
 case round=>
  obtain ⟨k,hk,rfl,t,y⟩:=hrel;clear G I;by_cases g:k<n;·
   obtain ⟨K,z⟩:=eX1 (64*k);have T:K+64<=N:=by have:=A.out;omega
   have M:lg.wrap ((k:Int) *64)= (K:Int):=by rw [rr _ (by omega)];omega
   have L:lg.wrap ((a:Int) + (k:Int))= ((a+k:Nat):Int):=by rw [rr _ (by omega)];omega
   have b1:(K:Int)<=(N:Int):=by omega
   have b2:¬N= K:=by omega
   have b3:K<=N:=by omega
   have C:=xY H.out.ok (Nat.le_of_lt g) u;have b:=Hl (H.out.below y.out) (a+k) (by omega) w.heap.size K (N - K) _ t.out (λe=>TL _ (H.out.lt _ e)) (by omega) (by rw [C];omega) O;rw [z,Ho H.out.ok g u,<-z]at b;have f:=hT b;clear b C z;go_wp2_with (go_at_call 153;refine zg f.out λw' hw'=>?_;have F:=hT hw';clear hw');go_roundw;case rel=>
    refine ⟨k+1,by omega,by go_num,?_,?_⟩;· show _= _;rw [F.out];exact setRow_heap _ _ _ _ _ _ t.out
    ·show Below _ _ _;rw [F.out];exact y.out.trans ⟨rfl,rfl,rfl,by simp,λj hj=>setRow_other _ _ _ _ (by omega)⟩
   case measure=>simp [CS];omega
  ·obtain rfl:k= n:=by omega
   have v:=Hn (cap:=N) (sp:= []) (by rw [Uj];exact t.out) (xY H.out.ok (nm _) u);rw [Hr,<-A.out]at v;go_wp2;go_ret2;exact ⟨rfl,y.out⟩
theorem ai.trans {w2:World} {o1:Ob} (h1:Step o o1 w w1) (h:ai o1 st w1 w2):ai o st w w2:=by obtain ⟨a,hd,b⟩:=h;exact ⟨a,hd,h1.trans b⟩
theorem ai.below {w2:World} (hb:zB w w1) (h:ai o st w1 w2):ai o st w w2:=ai.trans (Step.ax hb) h
theorem Hu (h:Dk w o st) (a:Int) (l:zL) (r:a<=9223372036854775807) (q:l.length<=140737488355328) (b:st.dead= true\/l.length % 64≠0\/Dm.dn st a (l.length / 64:Nat)= false): zF 92 #[zP o.p,zI a, .string (Om.B l)] w (zQ (zI (Dm.write st a l).2) w):=by obtain ⟨_,_,_,_,k,_⟩:=h.reads;have i:=Om.aG l;obtain ⟨n,e⟩:=eX1 l.length;cases hdead:st.dead with
 | true =>
 have c:Dm.write st a l= (st,41):=by unfold Dm.write;rw [if_pos hdead]
 rw [c];rw [hdead]at k;clear i hdead b h c e;go_enter func92,ntmps92;go_wp2;go_ret;exact ⟨rfl,rfl⟩
 | false =>
 by_cases hm:l.length % 64= 0;·
  have d:=(b.resolve_left (by rw [hdead];decide)).resolve_left (by omega);have c:Dm.write st a l= (st,2):=by unfold Dm.write;rw [if_neg (by rw [hdead];decide),if_pos hm,d];rfl
  rw [c];rw [hdead]at k;have g:=qg h a ((l.length / 64:Nat):Int) r;rw [d]at g;rw [<-e]at i g hm q;obtain ⟨m,f⟩:=eX1 (n / 64);rw [<-f]at g;have j:((n:Int) % 64 != 0)= false:=by simp;omega
  have t:(n:Int) / 64= (m:Int):=by omega
  clear f hm;have s:=hT g;clear hdead b h d g c e;go_enter func92,ntmps92;go_wp2_with (go_at_call 145;refine zh s.out ?_);go_ret;exact ⟨rfl,rfl⟩
 ·have c:Dm.write st a l= (st,1):=by unfold Dm.write;rw [if_neg (by rw [hdead];decide),if_neg hm]
  rw [c];rw [hdead]at k;rw [<-e]at i hm q;have j:((n:Int) % 64 != 0):=by simp;omega
  clear hdead b h c e;go_enter func92,ntmps92;go_wp2;go_ret;exact ⟨rfl,rfl⟩
theorem Hw {a:Int} (b:st.dead= true\/l.length % 64≠0\/Dm.dn st a (l.length / 64:Nat)= false):(Dm.write st a l).1= st:=by
 unfold Dm.write;split;· rfl
 ·split;·
   split;·
    rename_i h1 d c;rcases b with h|h|h;· exact absurd h h1
    ·exact absurd d h
    ·rw [h]at c;cases c
   ·rfl
  ·rfl
variable{cs:List (List UInt8)}
theorem Hx {c:zL} (h:Dm.cR st):Dm.bJ st k (c :: cs)= Dm.bJ (Dm.put (Dm.bw st) k c) (k+1) cs:=by show (if Dm.cR st then _ else _)= _;rw [if_pos h]
theorem Hy {c:zL} (h:Dm.cR st= false):Dm.bJ st k (c :: cs)= (Dm.bw st,41):=by show (if Dm.cR st then _ else _)= _;rw [if_neg (by rw [h];decide)]
theorem Hz (h:k<l.length / 64):(Dm.chunks l).drop k= ((l.drop (64*k)).take 64) :: (Dm.chunks l).drop (k+1):=by rw [List.drop_eq_getElem_cons (by rw [Dm.iV];exact h)];congr 1;simp [Dm.chunks]
structure H8 (o:Ob) (st:Dm.St) (a:Nat) (cs:List (List UInt8)) (k:Nat) (w wr:World) (st':Dm.St) (o':Ob):Prop where
 dk:Dk wr o' st'
 step:Step o o' w wr
 bJ:Dm.bJ st a cs= Dm.bJ st' (a+k) (cs.drop k)
 S:st'.S= st.S
 P:st'.P.length<=st.P.length+k
theorem H9 (h:Dk w o st) (a:Nat) (l:zL) (g:st.dead= false) (hm:l.length % 64= 0) (t:a+l.length / 64<=st.S.length) (hP:st.P.length<=549755813888): zF 92 #[zP o.p,zI a, .string (Om.B l)] w λe w'=>e= nf (zI (Dm.bJ st a (Dm.chunks l)).2)/\ai o (Dm.bJ st a (Dm.chunks l)).1 w w':=by
 obtain ⟨_,_,_,_,h4,_⟩:=h.reads;have hs:=Om.aG l;have ab:=h.ok.aS;have C:=qg h (a:Int) ((l.length / 64:Nat):Int) (by omega);rw [(Dm.fb st a _).2 ⟨by omega,by omega,by omega⟩]at C;obtain ⟨n,G⟩:=eX1 l.length;obtain ⟨m,q⟩:=eX1 (n / 64);rw [g]at h4;rw [<-G]at hs C hm t;rw [<-q]at C t;have ad:((n:Int) % 64 != 0)= false:=by simp;omega
 have hq:(n:Int) / 64= (m:Int):=by omega
 have x:n= 64*m:=by omega
 have A:(Dm.chunks l).length= m:=by rw [Dm.iV,<-G,q]
 have HC:=hT C;have H:=hT h;have I:=hT G;have F:=hT x;have Y:=hT A;have HM:m<=1048576:=by omega
 have bb:n<=67108864:=by omega
 clear g h C G q x A hm;go_enter func92,ntmps92;go_wp2_with (go_at_call 145;refine zh HC.out ?_);go_loopw [32] (λi wr=>∃(k:Nat) (st':Dm.St) (J:Ob),k<=m/\i= zI k/\Hid (H8 o st a (Dm.chunks l) k w wr st' J)) (λi _=>m - (CS i).toNat);case atStart=>exact ⟨0,st,o,yb _,rfl,hT ⟨H.out,Step.refl _ _,rfl,rfl,nm _⟩⟩
 case round=>
  obtain ⟨k,st',J,hk,rfl,b⟩:=hrel;clear HC h4;by_cases af:k<m;·
   obtain ⟨K,hK⟩:=eX1 (64*k);have ba:K+64<=n:=by have:=F.out;omega
   have aw:lg.wrap ((k:Int) *64)= (K:Int):=by rw [rr _ (by omega)];omega
   have ao:lg.wrap ((a:Int) + (k:Int))= ((a+k:Nat):Int):=by rw [rr _ (by omega)];omega
   have b1:(K:Int)<=(n:Int):=by omega
   have b4:64<=n - K:=by omega
   have d:=tD b.out.dk;rw [b.out.step.p]at d;have V:=hT hK;clear hK;have c:=Hz (l:=l) (k:=k) (by have:=I.out;have:=F.out;omega);cases hb:Dm.cR st' with
    | false =>
    rw [hb]at d;have s:=hT d;have Z:=hT hb;have X:=hT c;clear d hb c;go_wp2_with (go_at_call 146;refine zg s.out λw' hw'=>?_;have HW:=hT hw';clear hw');go_ret;have O:Dm.bJ st a (Dm.chunks l)= (Dm.bw st',41):=by rw [b.out.bJ,X.out,Hy Z.out]
    rw [O];exact ⟨rfl,ai.trans b.out.step HW.out⟩
    | true =>
    rw [hb]at d;have s:=hT d;have Z:=hT hb;have X:=hT c;clear d hb c;go_wp2_with fail;refine s.out.mono ?_;rintro e w1 ⟨rfl,o1,z,v⟩;have j:=b.out.step.trans v;have r:=(Dm.fB st').trans b.out.S;have D:(Dm.bw st').P.length<=st.P.length+k:=by rw [Dm.h_];exact b.out.P
    have hlen:((l.drop (64*k)).take 64).length= 64:=by rw [E4,IV,<-I.out,<-V.out];omega
    have f:=qi z (a+k) ((l.drop (64*k)).take 64) (by rw [r];omega) hlen (by omega);rw [j.p]at f;have E:=hT f;have Q:=hT j;have T:=hT r;have U:=hT D;have M:(Om.B l).extract K n= Om.B (l.drop (64*k)):=by rw [<-V.out];have:=Om.j_ (Om.B l) K;rw [Om.fx,Om.aG,<-I.out]at this;exact this
    have N:(Om.B (l.drop (64*k))).size= n - K:=by rw [Om.aG,IV,<-I.out,<-V.out]
    have L:(Om.B (l.drop (64*k))).extract 0 64= Om.B ((l.drop (64*k)).take 64):=by have:=Om.pj (Om.B (l.drop (64*k))) 64;rw [Om.fx]at this;exact this
    clear z v j r D hlen f;go_wp2_with fail;refine E.out.mono ?_;rintro e w2 ⟨rfl,o2,y,u⟩;have W:=hT y;have R:=hT u;clear y u N M L;go_wp2;go_roundw;case rel=>
     refine ⟨k+1,_,o2,by omega,by go_num,hT ⟨W.out,Q.out.trans R.out,?_,T.out,?_⟩⟩;· rw [b.out.bJ,X.out,Hx Z.out];rfl
     ·show ((Dm.bw st').P ++ _).length<=_;rw [DC];have:=U.out;simp;omega
    case measure=>simp [CS];omega
  ·obtain rfl:k= m:=by omega
   go_wp2;go_ret;have O:Dm.bJ st a (Dm.chunks l)= (st',0):=by rw [b.out.bJ,List.drop_of_length_le (by rw [Y.out];omega)];rfl
   rw [O];exact ⟨rfl,J,b.out.dk,b.out.step⟩
theorem fC (h:Dk w o st) (a:Int) (l:zL) (k:a<=9223372036854775807) (i:l.length<=140737488355328) (m:st.P.length<=549755813888): zF 92 #[zP o.p,zI a, .string (Om.B l)] w λe w'=>e= nf (zI (Dm.write st a l).2)/\ai o (Dm.write st a l).1 w w':=by
 by_cases d:st.dead= true\/l.length % 64≠0\/Dm.dn st a (l.length / 64:Nat)= false;· refine (Hu h a l k i d).mono ?_;rintro e w' ⟨j,rfl⟩;exact ⟨j,by rw [Hw d];exact ai.refl h⟩
 ·have h1:st.dead= false:=by cases hd:st.dead with|true=>exact absurd (.inl hd) d|false=>rfl
  have g:=Classical.byContradiction λc=>d (.inr (.inl c));have f:Dm.dn st a (l.length / 64:Nat):=by cases hd:Dm.dn st a (l.length / 64:Nat) with
   | true=>rfl
   | false=>exact absurd (.inr (.inr hd)) d
  obtain ⟨c1,c2,c3⟩:=(Dm.fb _ _ _).1 f;obtain ⟨b,rfl⟩:∃b:Nat,a= (b:Int):=⟨a.toNat,by omega⟩;have n:Dm.write st (b:Int) l= Dm.bJ st b (Dm.chunks l):=by unfold Dm.write;rw [if_neg (by rw [h1];decide),if_pos g,if_pos f,GH]
  rw [n];exact H9 h b l h1 g (by omega) m
theorem kq (h:Dk w o st) (a n:Int) (g:a<=9223372036854775807) (i:st.P.length<=1099511627776): zF 98 #[zP o.p,zI a,zI n] w λe w'=>e= zV (.string (Om.B (Dm.aA st a n))) (zI (Dm.aY st a n))/\zB w w':=by
 by_cases c:st.dead= true\/Dm.dn st a n= false;· refine (Ht h a n g c).mono ?_;rintro e w' ⟨f,rfl⟩;exact ⟨f,Below.refl _ _⟩
 ·have h1:st.dead= false:=by cases hd:st.dead with|true=>exact absurd (.inl hd) c|false=>rfl
  have d:Dm.dn st a n:=by cases hd:Dm.dn st a n with
   | true=>rfl
   | false=>exact absurd (.inr hd) c
  obtain ⟨c1,c2,c3⟩:=(Dm.fb _ _ _).1 d;have k:Dm.aA st a n= Dm.span st a.toNat n.toNat:=by unfold Dm.aA;rw [if_neg (by rw [h1];decide),if_pos d]
  have j:Dm.aY st a n= 0:=by unfold Dm.aY;rw [if_neg (by rw [h1];decide),if_pos d]
  rw [k,j];obtain ⟨b,rfl⟩:∃b:Nat,a= (b:Int):=⟨a.toNat,by omega⟩;obtain ⟨m,rfl⟩:∃m:Nat,n= (m:Int):=⟨n.toNat,by omega⟩;rw [GH,GH];exact xZ h b m h1 (by omega) i
theorem H_ (S:List (List UInt8)) (P:List (Nat×List UInt8)) (x:Nat×List UInt8) (keep:List Bool): Dm.settle S (P ++ [x]) keep= if keep.getD P.length false then (Dm.settle S P keep).set x.1 x.2 else Dm.settle S P keep:=by induction P generalizing S keep with
 | nil=>cases keep<;>simp [Dm.settle]
 | cons y P ih => show Dm.settle _ (P ++ [x]) keep.tail= _;rw [ih];cases keep<;>simp [Dm.settle]
theorem Ia (h:k<P.length):P.take (k+1)= P.take k ++ [P[k]]:=by rw [TD h]
variable{S:List (List UInt8)}
theorem Ib (h:k<P.length) (keep:List Bool): Dm.settle S (P.take (k+1)) keep= if keep.getD k false then (Dm.settle S (P.take k) keep).set P[k].1 P[k].2 else Dm.settle S (P.take k) keep:=by rw [Ia h,H_,E4,UQ (by omega)]
theorem Ic (h:k<P.length):(Dm.all P).getD k false= true:=by simp [Dm.all,h]
theorem Dk.pair (h:Dk w o st) {pa:Option Addr} {n pc:Nat} (d:o.pv= .slice pa n pc) {k:Nat} (hk:k<st.P.length): ∃g,pa= some ⟨g,0,none⟩/\w.cell? ⟨g,k*2,none⟩= some (zI (st.P[k].1:Int))/\w.cell? ⟨g,k*2+1,none⟩= some (.string (Om.B st.P[k].2)):=by
 have a:=h.bQ;rcases a.2 with ⟨_,e⟩|⟨g,cap,f,b,_⟩;· omega
 ·have c:=d.symm.trans b;injection c with h1 h2 h3;subst h1;rw [b]at a;obtain ⟨c1,c2⟩:=xD st.P k hk;refine ⟨g,rfl,?_,?_⟩;· rw [a.cellAt (k*2) (by omega),SH];exact c1
  ·rw [a.cellAt (k*2+1) (by omega),SH];exact c2
structure Set (o:Ob) (st:Dm.St) (keep:List Bool) (k:Nat) (w wr:World):Prop where
 dk:Dk wr o {st with S:=Dm.settle st.S (st.P.take k) keep}
 step:Step o o w wr
theorem Ie (h:Dk w o st) (b:Dm.cR st= false): zF 125 #[zP o.p] w λe w'=>e= nf (zI (Dm.flush st).2)/\ai o (Dm.flush st).1 w w':=by
 have d:Dm.flush st= (Dm.bw st,41):=by unfold Dm.flush;rw [if_neg (by rw [b];decide)]
 rw [d];have a:=tD h;rw [b]at a;have c:=hT a;clear a b d h;go_enter func125,ntmps125;go_wp2_with (go_at_call 146;refine zg c.out λw' hw'=>?_;have f:=hT hw';clear hw');go_ret;exact ⟨rfl,f.out⟩
theorem Ig (h:Dk w o st) (d:Dm.cR st) (Q:st.P.length<=1099511627776): zF 125 #[zP o.p] w λe w'=>e= nf (zI (Dm.flush st).2)/\ai o (Dm.flush st).1 w w':=by
 have R:Dm.flush st= (⟨Dm.settle st.S st.P (Dm.all st.P), [],(Dm.bw st).bj,(Dm.bw st).dead⟩,0):=by unfold Dm.flush;rw [if_pos d]
 rw [R];have j:=tD h;rw [d]at j;have v:=Dm.fB st;have r:=Dm.h_ st;obtain ⟨st1,s⟩:=eX1 (Dm.bw st);rw [<-s]at j v r⊢;rw [<-v,<-r];rw [<-r]at Q;have D:=hT j;clear j d R h v r s;go_enter func125,ntmps125;go_wp2_with fail;refine D.out.mono ?_;rintro e w1 ⟨rfl,U,q,t⟩;have u:=t.p;obtain ⟨_,h1,_,_,_,_⟩:=q.reads;obtain ⟨pa,pc,l⟩:=ck q.bQ;rw [u,l]at h1;obtain ⟨n,J⟩:=eX1 st1.P.length;rw [<-J]at l h1 Q;have F:=hT q;have M:=hT t;have N:=hT l;have T:=hT J;have E:=hT u;clear D q t l J u;go_wp2;go_loopw [15] (λi wr=>∃k:Nat,k<=n/\i= zI k/\Hid (Set U st1 (Dm.all st1.P) k w1 wr)) (λi _=>n - (CS i).toNat);case atStart=>exact ⟨0,yb _,rfl,hT ⟨F.out,Step.refl _ _⟩⟩
 case round=>
  obtain ⟨k,hk,rfl,c⟩:=hrel;clear h1;by_cases K:k<n;·
   have m:k<st1.P.length:=by rw [<-T.out];exact K
   obtain ⟨g,rfl,c1,c2⟩:=c.out.dk.pair N.out (k:=k) m;have hw:=F.out.ok.writes _ (List.getElem_mem m);have b:=Ib (S:=st1.S) m (Dm.all st1.P);rw [Ic m,if_pos rfl]at b;obtain ⟨x,H⟩:=eX1 (st1.P[k]);have W:wr.cell? ⟨g,k*2,none⟩= some (zI x.1):=by rw [H];exact c1
   have V:wr.cell? ⟨g,k*2+1,none⟩= some (.string (Om.B x.2)):=by rw [H];exact c2
   rw [<-H]at b hw;have y:=hT b;have I:=hT hw;clear c1 c2 b hw H;go_wp2_with fail;have f:zB wr (wr.alloc (hV #[zI x.1, .string (Om.B x.2)] 216)):=zA;have a:=Hi (c.out.dk.below f) x.1 x.2 (by show x.1< (Dm.settle _ _ _).length;rw [Dm.lU];exact I.out.1) I.out.2;rw [E.out]at a;refine a.mono ?_;rintro e w2 ⟨rfl,C,A⟩;have O:=hT C;have L:=hT A;have G:=hT f;clear C A f a;go_wp2;go_roundw;case rel=> refine ⟨k+1,by omega,by go_num,hT ⟨?_,c.out.step.trans ((Step.ax G.out).trans L.out)⟩⟩;rw [y.out];exact O.out
   case measure=>simp [CS];omega
  ·obtain rfl:k= n:=by omega
   have a:=Hg c.out.dk;rw [E.out]at a;have z:=hT a;clear a;go_wp2_with fail;refine zg z.out λw2 hwent=>?_;have I:=hT hwent;clear hwent;go_wp2;go_ret;refine ⟨rfl,?_⟩;have hw:=ai.trans (M.out.trans c.out.step) I.out;rw [T.out,Vj]at hw;exact hw
theorem mC (h:Dk w o st) (a:st.P.length<=1099511627776): zF 125 #[zP o.p] w λe w'=>e= nf (zI (Dm.flush st).2)/\ai o (Dm.flush st).1 w w':=by cases hb:Dm.cR st with
 | true=>exact Ig h hb a
 | false=>exact Ie h hb
def Kept (w:World) (F:Nat->Prop) (a:Option Addr) (ks:List Bool):Prop:= 0<ks.length->∃b off,a= some ⟨b,off,none⟩/\¬F b/\b<w.heap.size/\∀i,i<ks.length->w.cell? ⟨b,off+i,none⟩= some (.bool (ks.getD i false))
variable{ks:List Bool}
theorem Kept.fr {G:Nat->Prop} {a:Option Addr} (h:Kept w F a ks) (f:Fr G w w') (j:∀i,i<w.heap.size->G i->F i):Kept w' F a ks:=λhn=>by obtain ⟨b,off,e,g,d,k⟩:=h hn;refine ⟨b,off,e,g,ti d f.size,λi hi=>?_⟩;rw [<-k i hi];exact TZ (w:=w) (a:=⟨b,off+i,none⟩) (f.block b d (λc=>g (j b d c)))
theorem Kept.none (w:World) (F:Nat->Prop) (a:Option Addr):Kept w F a []:=λh=>absurd h (by simp)
structure Ro where
 p:Nat
 sv:Value
 pv:Value
def Ro.fp (r:Ro) (k:Nat):Prop:=k= r.p\/r.sv.ownBlock= some k\/r.pv.ownBlock= some k
def Ro.cells (r:Ro) (f:Int) (dead:Bool):Array Value:=#[r.sv,r.pv,zI f, .bool dead]
def dX (S:List (List UInt8)):List Value:=S.map λx=> .string (Om.B x)
theorem uQ (h:k<S.length):(dX S)[k]?= some (.string (Om.B (S.getD k []))):=by simp [dX,h]
theorem PW (S:List (List UInt8)) (x:zL):dX (S ++ [x])= dX S ++ [.string (Om.B x)]:=by simp [dX]
structure Rk (w:World) (r:Ro) (st:Dm.St):Prop where
 ok:Dm.Ok st
 head:w.heap[r.p]?= some (hV (r.cells st.bj st.dead) 98 (0,0))
 stands:w.ownsRow 0 9 1 r.sv st.S.length (dX st.S)
 bQ:w.ownsRow 0 353 2 r.pv st.P.length (gA st.P)
 high:st.bj<=9223372036854775807
variable{r:Ro}
theorem Rk.lt (h:Rk w r st) (k:Nat) (hk:r.fp k):k<w.heap.size:=by
 rcases hk with rfl|hk|hk;· exact lt_of_heap h.head
 ·obtain ⟨cur,a⟩:=bV h.stands k hk;exact lt_of_heap a
 ·obtain ⟨cur,a⟩:=bV h.bQ k hk;exact lt_of_heap a
theorem Rk.same (h:Rk w r st) (hb:∀k,r.fp k->w'.heap[k]?= w.heap[k]?):Rk w' r st:= ⟨h.ok,(hb _ (.inl rfl)).trans h.head,bc h.stands λk hk=>hb k (.inr (.inl hk)),bc h.bQ λk hk=>hb k (.inr (.inr hk)),h.high⟩
theorem Rk.below (h:Rk w r st) (hb:zB w w'):Rk w' r st:=h.same λk hk=>hb.block k (h.lt k hk)
theorem Rk.apart (h:Rk w r st):(∀k,r.sv.ownBlock= some k->k≠r.p)/\(∀k,r.pv.ownBlock= some k->k≠r.p)/\(∀k,r.sv.ownBlock= some k->r.pv.ownBlock≠some k):=by
 have h1:=h.head;refine ⟨λk hk e=>?_,λk hk e=>?_,λk hk e=>?_⟩;· obtain ⟨cur,a⟩:=bV h.stands k hk;rw [e,h1]at a;injection a with a;injection a with _ a;cases a
 ·obtain ⟨cur,a⟩:=bV h.bQ k hk;rw [e,h1]at a;injection a with a;injection a with _ a;cases a
 ·obtain ⟨cur,a⟩:=bV h.stands k hk;obtain ⟨c,b⟩:=bV h.bQ k e;rw [a]at b;injection b with b;injection b with _ b;cases b
theorem Rk.reads (h:Rk w r st): w.cell? (zD r.p 0)= some r.sv/\w.cell? (zD r.p 1)= some r.pv/\w.cell? (zD r.p 2)= some (zI st.bj)/\w.cell? (zD r.p 3)= some (.bool st.dead)/\∀j,w.frozen? (zD r.p j)= false:=by refine ⟨?_,?_,?_,?_,λj=>frozen_of_row _ _ _ _ _ h.head⟩<;>(rw [cell_of_row _ _ _ _ _ _ h.head];rfl)
structure ir (r r':Ro) (w w':World):Prop where
 fr:Fr r.fp w w'
 fp:∀k,r'.fp k->r.fp k\/w.heap.size<=k
 p:r'.p= r.p
theorem ir.trans {a b c:Ro} {u v:World} (h:ir a b u v) (k:ir b c v w):ir a c u w:=by
 refine ⟨h.fr.trans k.fr λi hi hb=>?_,λi hi=>?_,k.p.trans h.p⟩;·
  rcases h.fp i hb with h1|h1;· exact h1
  ·omega
 ·rcases k.fp i hi with h1|h1;· exact h.fp i h1
  ·exact .inr (A6 h.fr.size h1)
def fu (r:Ro) (st:Dm.St) (w w':World):Prop:=∃r',Rk w' r' st/\ir r r' w w'
theorem fu.trans {w2:World} {r1:Ro} (h1:ir r r1 w w1) (h:fu r1 st w1 w2):fu r st w w2:=by obtain ⟨a,hd,b⟩:=h;exact ⟨a,hd,h1.trans b⟩
theorem Rk.at (h:Rk w r st) {sa:Option Addr} {n sc:Nat} (d:r.sv= .slice sa n sc) {k:Nat} (hk:k<st.S.length): ∃g,sa= some ⟨g,0,none⟩/\r.sv.ownBlock= some g/\w.cell? (zD g k)= some (.string (Om.B (st.S.getD k [])))/\w.frozen? (zD g k)= false:=by
 have a:=h.stands;rcases a.2 with ⟨_,e⟩|⟨g,cap,f,b,_⟩;· omega
 ·have c:=d.symm.trans b;injection c with h1 h2 h3;subst h1;rw [b]at a;refine ⟨g,rfl,by rw [b];rfl,?_,a.frozenAt k⟩;rw [a.cellAt k (by omega)];exact uQ hk
theorem sE (h:k<S.length):(S.take (k+1)).flatten= (S.take k).flatten ++ S.getD k []:=by rw [TD h,List.flatten_append];simp [h]
theorem PX (h:∀x∈S,x.length= 64) (k:Nat):(S.take k).flatten.length<=64*S.length:=by rw [Dm.ix (λx hx=>h x (List.mem_of_mem_take hx)),E4];omega
theorem jx (a b:zL) (h:a.length+b.length<4611686018427387904):¬9223372036854775807< (Om.B a).size+ (Om.B b).size:=by rw [Om.aG,Om.aG];omega
theorem BQ (h:Rk w r st): zF 15 #[zP r.p] w (zQ (.string (Om.B st.S.flatten)) w):=by
 obtain ⟨o,_⟩:=h.reads;obtain ⟨t,q,a⟩:=ck h.stands;rw [a]at o;have d:=h.ok.aS;obtain ⟨m,hm⟩:=eX1 st.S.length;rw [<-hm]at o d a;have H:=hT h;have g:=hT a;have j:=hT hm;clear h a hm;go_enter func15,ntmps15;go_wp2;go_loop [3,4] (λs i=>∃k:Nat,k<=m/\i= zI k/\s= .string (Om.B (st.S.take k).flatten)) (λ_ i=>m - (CS i).toNat);case atStart=>exact ⟨0,yb _,rfl,rfl⟩
 case round=>
  obtain ⟨k,hk,rfl,rfl⟩:=hrel;by_cases f:k<m;·
   have b:k<st.S.length:=by rw [<-j.out];exact f
   obtain ⟨u,rfl,_,c1,_⟩:=H.out.at g.out (k:=k) b;have n:=sE b;have e:=jx (st.S.take k).flatten (st.S.getD k []) (by have:=PX H.out.ok.fA k;have:=H.out.ok.fA _ (Dm.vZ b);rw [<-j.out]at *;omega);have c:=Om.fy (st.S.take k).flatten (st.S.getD k []);rw [<-n]at c;obtain ⟨x,l⟩:=eX1 (st.S.getD k []);rw [<-l]at c1 e c;clear n b l;go_wp2;go_round;case rel=>exact ⟨k+1,by omega,by go_num,rfl⟩
   case measure=>simp [CS];omega
  ·obtain rfl:k= m:=by omega
   go_wp2;go_ret;refine ⟨?_,rfl⟩;rw [j.out,Vj];rfl
structure Te (r:Ro) (st:Dm.St) (a:Nat) (cs:List (List UInt8)) (k:Nat) (w wr:World) (st':Dm.St) (r':Ro):Prop where
 dk:Rk wr r' st'
 dead:st'.dead= false
 step:ir r r' w wr
 bJ:Dm.bJ st a cs= Dm.bJ st' (a+k) (cs.drop k)
 S:st'.S= st.S
 P:st'.P.length<=st.P.length+k
theorem rJ (l:zL) (a b:Nat):(Om.B l).extract a b= Om.B ((l.drop a).take (b - a)):=by apply ByteArray.ext;rw [ByteArray.data_extract];apply Array.ext';rw [Array.toList_extract,List.extract_eq_take_drop];rfl
structure rK (r:Ro) (st:Dm.St) (x:Nat×List UInt8) (w w':World) (v:Value):Prop where
 os:w'.os= w.os
 tape:w'.tape= w.tape
 output:w'.output= w.output
 size:w.heap.size<=w'.heap.size
 block:∀k,k<w.heap.size->r.pv.ownBlock≠some k->w'.heap[k]?= w.heap[k]?
 own:w'.ownsRow 0 353 2 v (st.P.length+1) (gA (st.P ++ [x]))
 home:∀k,v.ownBlock= some k->r.pv.ownBlock= some k\/w.heap.size<=k
theorem rK.head {x:Nat×List UInt8} (h:rK r st x w w' v) (a:Rk w r st):w'.heap[r.p]?= some (hV (r.cells st.bj st.dead) 98 (0,0)):=by rw [h.block r.p (a.lt _ (.inl rfl)) (λe=>(a.apart.2.1 _ e) rfl)];exact a.head
theorem rK.done (h:rK r st (k,l) w w' v) (c:Rk w r st) (hk:k<st.S.length) (i:l.length= 64): Rk (w'.setCell ⟨r.p,1,none⟩ v) {r with pv:=v} (Dm.put st k l)/\ir r {r with pv:=v} w (w'.setCell ⟨r.p,1,none⟩ v):=by
 have g:=h.head c;obtain ⟨a1,a2,a3⟩:=c.apart;have f:∀j,v.ownBlock= some j->j≠r.p:=λj a e=>by obtain ⟨cur,d⟩:=bV h.own j a;rw [e,g]at d;injection d with d;injection d with _ d;cases d
 refine ⟨⟨Dm.lT c.ok k l hk i,?_,?_,?_,c.high⟩,⟨?_,?_,rfl⟩⟩;· rw [heap_setCell_same _ _ _ _ _ _ g];rfl
 ·refine bc c.stands λj a=>?_;rw [L2 _ _ _ _ (a1 j a)];exact h.block j (c.lt j (.inr (.inl a))) (a3 j a)
 ·have:=bc h.own (w':=w'.setCell ⟨r.p,1,none⟩ v) λj a=>L2 _ _ _ _ (f j a);show Tt _ _ _ _ _ (st.P ++ [(k,l)]).length (gA (st.P ++ [(k,l)]));rw [DC];exact this
 ·refine Fr.setCell (b:=w') ⟨h.os,h.tape,h.output,h.size,λj a hF=>?_⟩ _ (.inl rfl) _;exact h.block j a (λe=>hF (.inr (.inr e)))
 ·rintro j (a|a|a);· exact .inl (.inl a)
  ·exact .inl (.inr (.inl a))
  ·rcases h.home j a with e|e;· exact .inl (.inr (.inr e))
   ·exact .inr e
structure Tg (r:Ro) (st:Dm.St) (keep:List Bool) (k:Nat) (w wr:World):Prop where
 dk:Rk wr r {st with S:=Dm.settle st.S (st.P.take k) keep}
 step:ir r r w wr
def RU (st:Dm.St) (B:Nat) (w:World) (e:Ending) (w':World):Prop:=∃r,e= nf (zP r.p)/\Rk w' r st/\(∀k,r.fp k->B<=k)/\Below B w w'
structure lO (r:Ro) (st:Dm.St) (x:zL) (w w':World) (v:Value):Prop where
 os:w'.os= w.os
 tape:w'.tape= w.tape
 output:w'.output= w.output
 size:w.heap.size<=w'.heap.size
 block:∀k,k<w.heap.size->r.sv.ownBlock≠some k->w'.heap[k]?= w.heap[k]?
 own:w'.ownsRow 0 9 1 v (st.S.length+1) (dX (st.S ++ [x]))
 home:∀k,v.ownBlock= some k->r.sv.ownBlock= some k\/w.heap.size<=k
theorem lO.of {w2:World} {pa:Option Addr} {np pc g cap:Nat} (b:r.sv= .slice pa np pc) (f:np= st.S.length) (c:w2.ownsRow 0 9 1 (zS g (np+1) cap) (np+1) (dX st.S ++ [.string (Om.B l)])) (d:(w.alloc (hV #[.string (Om.B l)] 9)).drew.grownBy w2 (AF pa np pc).ownBlock) (h:(AF pa np pc).ownBlock= some g\/g= w.heap.size+1): lO r st l w w2 (zS g (np+1) cap):=by
 have i:(w.alloc (hV #[.string (Om.B l)] 9)).drew.heap.size= w.heap.size+1:=by simp
 refine ⟨d.os,d.tape,d.output,?_,λj a hne=>?_,?_,λj a=>?_⟩;· have:=d.size;omega
 ·rw [b]at hne;exact (d.block j (by omega) (λe=>hne e.symm)).trans (PC _ _ _ a)
 ·rw [PW,<-f];exact c
 ·injection a with a;have a:g= j:=a;rw [b];rcases h with e|e;· exact .inl (by rw [e,a])
  ·exact .inr (by omega)
theorem lO.head {x:zL} (h:lO r st x w w' v) (a:Rk w r st):w'.heap[r.p]?= some (hV (r.cells st.bj st.dead) 98 (0,0)):=by rw [h.block r.p (a.lt _ (.inl rfl)) (λe=>(a.apart.1 _ e) rfl)];exact a.head
theorem lO.done (h:lO r st l w w' v) (c:Rk w r st) (k:l.length= 64) (m:st.S.length+1<=1048576): Rk (w'.setCell ⟨r.p,0,none⟩ v) {r with sv:=v} {st with S:=st.S ++ [l]}/\ir r {r with sv:=v} w (w'.setCell ⟨r.p,0,none⟩ v):=by
 have i:=h.head c;obtain ⟨a1,a2,a3⟩:=c.apart;have g:∀j,v.ownBlock= some j->j≠r.p:=λj a e=>by obtain ⟨cur,f⟩:=bV h.own j a;rw [e,i]at f;injection f with f;injection f with _ f;cases f
 refine ⟨⟨⟨?_,λx d=>?_,c.ok.bj,by rw [DC];exact m⟩,?_,?_,?_,c.high⟩,⟨?_,?_,rfl⟩⟩;·
  intro x d;rcases RR.1 d with d|d;· exact c.ok.fA x d
  ·rw [H5.1 d];exact k
 ·obtain ⟨h1,n⟩:=c.ok.writes x d;exact ⟨by rw [DC];exact ti h1 (Nat.le_add_right _ _),n⟩
 ·rw [heap_setCell_same _ _ _ _ _ _ i];rfl
 ·have:=bc h.own (w':=w'.setCell ⟨r.p,0,none⟩ v) λj a=>L2 _ _ _ _ (g j a);show Tt _ _ _ _ _ (st.S ++ [l]).length (dX (st.S ++ [l]));rw [DC];exact this
 ·refine bc c.bQ λj a=>?_;rw [L2 _ _ _ _ (a2 j a)];exact h.block j (c.lt j (.inr (.inr a))) (λe=>a3 j e a)
 ·refine Fr.setCell (b:=w') ⟨h.os,h.tape,h.output,h.size,λj a hF=>?_⟩ _ (.inl rfl) _;exact h.block j a (λe=>hF (.inr (.inl e)))
 ·rintro j (a|a|a);· exact .inl (.inl a)
  ·rcases h.home j a with e|e;· exact .inl (.inr (.inl e))
   ·exact .inr e
  ·exact .inl (.inr (.inr a))
theorem RV:(prog.info? 9).map (λi=>(i.zero,i.size,i.bytes))= some (some (.string ⟨#[]⟩),1,16):=by kernel_rfl
theorem RX (w:World):Rk (w.alloc (hV #[AF none 0 0, AF none 0 0,zI (-1), .bool false] 98)) ⟨w.heap.size, AF none 0 0, AF none 0 0⟩ ⟨[], [], -1,false⟩:= ⟨⟨(λx hx=>by cases hx),(λx hx=>by cases hx),Int.le_refl _,yb _⟩,heap_alloc_new _ _,Ts _ _ _ _,Ts _ _ _ _,(by decide)⟩
theorem CB (l:zL) (w:World) (h:l.length<=67108864):zF 14 #[.string (Om.B l)] w λe w'=>RU (Dm.load l) w.heap.size w e w':=by
 obtain ⟨i0,hi,ba,aw,ao⟩:=info_parts RV;go_enter func14,ntmps14;go_wp2;go_loop [0] (λs=>∃j:Nat,j<=(64 - l.length % 64) % 64/\s= .string (Om.B (l ++ vw j 0))) (λs=>match s with| .string b=>67108928 - b.size|_=>0);case atStart=>exact ⟨0,yb _,by simp⟩
 case round=>
  obtain ⟨j,x,rfl⟩:=hrel;have A:(Om.B (l ++ vw j 0)).size= l.length+j:=by rw [Om.aG,DC,Tq]
  by_cases o:(l.length+j) % 64= 0;·
   have F:l ++ vw j 0= Dm.pad l:=by unfold Dm.pad;congr 2;omega
   rw [F]at A;obtain ⟨n,O⟩:=eX1 (l.length+j);rw [<-O]at A o;have T:((n:Int) % 64 != 0)= false:=by simp;omega
   have bb:n<=67108928:=by omega
   have N:(Dm.pad l).length= n:=by rw [<-F,DC,Tq,O]
   obtain ⟨m,hm⟩:=eX1 (n / 64);have Y:(Dm.chunks (Dm.pad l)).length= m:=by rw [Dm.iV,N,hm]
   rw [F];have bm:=hT N;have HM:Hid (n= 64*m):=by show n= 64*m;omega
   have bx:m<=1048576:=by omega
   have S:=hT Y;obtain ⟨P,hP⟩:=eX1 (Dm.pad l);rw [<-hP]at A⊢;have HP:=hT hP;clear F O o N hm Y x hP;go_wp2;go_loopw [4] (λi wr=>∃I:Nat,I<=n/\i= zI I/\Hid (∃k r,I= 64*k/\k<=m/\Rk wr r ⟨(Dm.chunks (Dm.pad l)).take k, [], -1,false⟩/\r.p= w.heap.size/\(∀j,r.fp j->w.heap.size<=j)/\zB w wr)) (λi _=>n - (CS i).toNat);case atStart=>
    refine ⟨0,yb _,rfl,hT ⟨0,_,rfl,yb _,RX w,rfl,?_,zA⟩⟩;rintro j (x|x|x);· show w.heap.size<=j;rw [x];exact nm _
    ·cases x
    ·cases x
   case round=>
    obtain ⟨I,hI,rfl,M⟩:=hrel;obtain ⟨k,r,y,bG,E,t,C,D⟩:=M.out;by_cases o:I<n;·
     have J:k<m:=by have:=HM.out;omega
     have hIn:I+64<=n:=by have:=HM.out;omega
     obtain ⟨c,hc⟩:=eX1 ((P.drop (64*k)).take 64);have hlen:c.length= 64:=by rw [hc,E4,IV,HP.out,bm.out];omega
     have hx:(Om.B P).extract I (I+64)= Om.B c:=by rw [rJ,hc,Nat.add_sub_cancel_left,y]
     have q:(Dm.chunks (Dm.pad l)).take (k+1)= (Dm.chunks (Dm.pad l)).take k ++ [c]:=by rw [TD (by rw [S.out];exact J),hc,HP.out];congr 2;simp [Dm.chunks]
     have Q:((Dm.chunks (Dm.pad l)).take k).length= k:=by rw [E4,S.out];omega
     obtain ⟨g1,_,_,_,hf⟩:=E.reads;obtain ⟨pa,pc,f⟩:=ck E.stands;rw [f]at g1;have d:=E.stands;rw [f]at d;have V:=E.lt r.p (.inl rfl);rw [Q]at g1 d f;have Z:zB wr (wr.alloc (hV #[.string (Om.B c)] 9)).drew:=zA.drew;have bf:(wr.alloc (hV #[.string (Om.B c)] 9)).cell? (zD r.p 0)= some (.slice pa k pc):= (TZ (w:=wr) (a:=(zD r.p 0)) (PC _ _ _ V)).trans g1;have bg:Hid ((wr.alloc (hV #[.string (Om.B c)] 9)).drew.ownsRow 0 9 1 (.slice pa k pc) k (dX ((Dm.chunks (Dm.pad l)).take k))):= bc d λj x=>Z.block j (E.lt j (.inr (.inl (by rw [f];exact x))));have ab:Hid (∀j u,([.string (Om.B c)]:List Value)[j]?= some u->(wr.alloc (hV #[.string (Om.B c)] 9)).drew.cell? ((⟨wr.heap.size,0,none⟩:Addr).add j)= some u):= World.news_of_block (cs:=#[.string (Om.B c)]) (show (wr.alloc _).heap[wr.heap.size]?= _ from heap_alloc_new _ _);have ONE:Hid (∀u∈([.string (Om.B c)]:List Value),u.oneCell'= true):=by intro u hu;rw [H5.1 hu];rfl
     rw [t]at g1 bf;have bq:lg.wrap ((I:Int) +64)= (I:Int) +64:=by rw [rr _ (by omega)]
     have b2:(I:Int) +64<=(n:Int):=by omega
     have b3:(I:Int)<=(I:Int) +64:=by omega
     have b5:((I:Int) +64).toNat= I+64:=by omega
     have HR:=hT E;have G:=hT t;have H:=hT C;have z:=hT D;have bl:=hT f;have ad:=hT Q;have HT:=hT q;have HL:=hT hlen;have R:=hT y;clear E t C D f Q q hlen y hc d Z hf M;go_wp2;go_region_law (refine step_append_lies _ rfl (.tmp 23) (.tmp 29) 95 rfl 0 9 i0 _ 1 16 underlying95 hi ba aw ao rfl (by decide) (.slice pa k pc) k (dX ((Dm.chunks (Dm.pad l)).take k)) (by simp [Act.eval]) bg.out ⟨wr.heap.size,0,none⟩ 1 1 [.string (Om.B c)] (by simp [Act.eval]) rfl ab.out ONE.out (by omega) (by unfold maxLen;omega) (by omega) (yb _) (wr.heap.size+1) (by simp) ?_;intro g cap w2 v W K U;have af:=hT (lO.of (st:=⟨(Dm.chunks (Dm.pad l)).take k, [], -1,false⟩) bl.out ad.out.symm v W K);have hh:=af.out.head HR.out;rw [G.out]at hh;have c4:w2.cell? (zz w 0)= some r.sv:=(zW hh);have f4:w2.frozen? (zz w 0)= false:=frozen_of_row _ _ _ _ _ hh;clear hh v W K U);all_goals
      go_wp2;go_roundw;case rel=>
       have X:=af.out.done HR.out HL.out (by show ((Dm.chunks (Dm.pad l)).take k).length+1<=_;rw [ad.out];omega);have L:=X.2;have h1:=X.1;rw [G.out]at h1 L;refine ⟨I+64,by omega,by go_num,hT ⟨k+1,⟨w.heap.size, zS g (k+1) cap,r.pv⟩,by have:=R.out;omega,J,?_,rfl,λj x=>?_,z.out.trans (L.fr.below (by exact z.out.size) H.out)⟩⟩;· rw [HT.out];exact h1
       ·rcases L.fp j x with e|e;· exact H.out j e
        ·exact A6 z.out.size e
      case measure=>simp [CS];omega
    ·obtain rfl:I= n:=by omega
     have HR:=hT E;have G:=hT t;have H:=hT C;have z:=hT D;have R:=hT y;clear E t C D y M;go_wp2;go_ret;refine ⟨r,by rw [G.out];rfl,?_,H.out,z.out⟩;have h1:=HR.out;have:k= m:=by have:=R.out;have:=HM.out;omega
     rw [this,OP (by rw [S.out];omega)]at h1;exact h1
  ·obtain ⟨n,O⟩:=eX1 (l.length+j);rw [<-O]at A o;have T:((n:Int) % 64 != 0):=by simp;omega
   have bb:n<=67108928:=by omega
   have bs:Om.B (l ++ vw j 0) ++ ⟨#[0]⟩= Om.B (l ++ vw (j+1) 0):=by rw [List.replicate_succ',<-NR];exact Om.fy _ [0]
   have bt:¬9223372036854775807<n+1:=by omega
   have HN:=hT O;have bo:=hT o;clear O o;go_wp2;go_round;case rel=>exact ⟨j+1,by have:=HN.out;have:=bo.out;omega,rfl⟩
   case measure=> show 67108928 - (Om.B (l ++ vw (j+1) 0)).size<67108928 - (Om.B (l ++ vw j 0)).size;rw [Om.aG,Om.aG,DC,DC,Tq,Tq];have:=HN.out;omega
structure Ac where
 k:Nat
 a:Int
 n:Int
 d:List UInt8
 ks:List Bool
 ka:Option Addr
 kc:Nat
def Ac.row (x:Ac):Array Value:=#[.int .u8 x.k,zI x.a,zI x.n, .string (Om.B x.d), .slice x.ka x.ks.length x.kc]
def Ac.step (x:Ac) (st:Dm.St):Dm.St:=match x.k % 5 with
 | 0=>st
 | 1=>(Dm.write st x.a x.d).1
 | 2=>(Dm.flush st).1
 | 3=>Dm.fail st x.n
 | _=>Dm.pk st x.ks
def Ac.same (x:Ac) (st sr:Dm.St):Bool:=match x.k % 5 with
 | 0=>decide (Dm.aA st x.a x.n= Dm.aA sr x.a x.n) && decide (Dm.aY st x.a x.n= Dm.aY sr x.a x.n)
 | 1=>decide ((Dm.write st x.a x.d).2= (Dm.write sr x.a x.d).2)
 | 2=>decide ((Dm.flush st).2= (Dm.flush sr).2)
 | _=>true
structure Ac.Wf (x:Ac):Prop where
 k:x.k<256
 R7: -9223372036854775808<=x.a
 R8:x.a<=9223372036854775807
 R9: -9223372036854775808<=x.n
 R_:x.n<=9223372036854775807
 d:x.d.length<=140737488355328
 ks:x.ks.length<=140737488355328
structure rT (o:Ob) (r:Ro) (o':Ob) (r':Ro) (st sr:Dm.St) (w w':World):Prop where
 dk:Dk w' o' st
 rk:Rk w' r' sr
 fr:Fr (λ k=>o.fp k\/r.fp k) w w'
 vD:∀k,o'.fp k->o.fp k\/w.heap.size<=k
 vE:∀k,r'.fp k->r.fp k\/w.heap.size<=k
 dj:∀k,o'.fp k->¬r'.fp k
 op:o'.p= o.p
 rp:r'.p= r.p
theorem rT.trans {o1 o2:Ob} {r1 r2:Ro} {sr st2 sr2:Dm.St} {w2:World} (h:rT o r o1 r1 st sr w w1) (k:rT o1 r1 o2 r2 st2 sr2 w1 w2):rT o r o2 r2 st2 sr2 w w2:=by
 refine ⟨k.dk,k.rk,h.fr.trans k.fr λi hi a=>?_,λi hi=>?_,λi hi=>?_,k.dj,k.op.trans h.op,k.rp.trans h.rp⟩;·
  rcases a with a|a;·
   rcases h.vD i a with e|e;· exact .inl e
   ·omega
  ·rcases h.vE i a with e|e;· exact .inr e
   ·omega
 ·rcases k.vD i hi with e|e;· exact h.vD i e
  ·exact .inr (A6 h.fr.size e)
 ·rcases k.vE i hi with e|e;· exact h.vE i e
  ·exact .inr (A6 h.fr.size e)
theorem Kept.mono {G:Nat->Prop} {a:Option Addr} (h:Kept w F a ks) (f:∀i,i<w.heap.size->G i->F i):Kept w G a ks:=λhn=>by obtain ⟨b,off,e,j,d,g⟩:=h hn;exact ⟨b,off,e,λc=>j (f b d c),d,g⟩
theorem Step.cell {o':Ob} {W:World} (h:Dk w o st) (hs:Step o o' w1 W) (hlt:w.heap.size<w1.heap.size) (j:Nat):W.cell? (zz w j)= w1.cell? (zz w j):= TZ (w:=w1) (a:=(zz w j)) (hs.fr.block w.heap.size hlt (λe=>TL _ (h.lt _ e)))
theorem ir.cell {r':Ro} {sr:Dm.St} {W:World} (h:Rk w r sr) (hs:ir r r' w1 W) (hlt:w.heap.size<w1.heap.size) (j:Nat):W.cell? (zz w j)= w1.cell? (zz w j):= TZ (w:=w1) (a:=(zz w j)) (hs.fr.block w.heap.size hlt (λe=>TL _ (h.lt _ e)))
end ae
end
section
namespace ae
open Go.RowKit Go.ChangeShapes Go.WideShapes Go.Deep
section
variable {H:Type} {enc:TypeId×Value→H} {w:World} {spare:Nat→Bool} {held:Bool}
variable{a:Addr}{v:Value}
theorem nA {w:World} (h:w.cell? a= some v):a.block<w.heap.size:=by
 unfold World.cell? at h;by_cases b:a.block<w.heap.size;· exact b
 ·rw [Array.getElem?_eq_none (by omega)]at h;simp at h
theorem CD (h:w.cell? a= some v):∃b off,a= ⟨b,off,none⟩:=by
 obtain ⟨b,off,spot⟩:=a;have:spot= none:=by simpa using World.cell?_spot h
 subst this;exact ⟨b,off,rfl⟩
theorem Sa {fuel:Nat} {x:DataW H×List MemPlace} (h:DataW.trod enc prog w 0 spare held fuel 32 [v]= some x): ∃(ka:Option Addr) (ks:List Bool) (kc:Nat),v= .slice ka ks.length kc/\ks.length<=maxLen/\Kept w (λk=>w.heap.size<=k) ka ks:=by
 rcases open_slice1 underlying32 (by kernel_rfl) h with ⟨d,_⟩|⟨a,len,cap,m,n,V,D,Pl,e,_,o,q,hm,_,j⟩;· injection d with d;exact ⟨none, [],0,d,yb _,Kept.none _ _ _⟩
 ·injection e with e;have l:len<=m:=by rw [hm];split<;>omega
  obtain ⟨B,g⟩:=choose_lt (α:=Bool) (n:=m) (p:=λi b=>w.cell? (a.add i)= some (.bool b)) (λi hi=>by obtain ⟨h1,r⟩:=j i hi;obtain ⟨b,f,_⟩:=DataW.trod_bool underlying4 r;injection f with f;exact ⟨b,by rw [h1,f]⟩);refine ⟨some a,(List.range len).map B,cap,?_,?_,λhn=>?_⟩;· rw [e,PN,Tw]
  ·rw [PN,Tw];omega
  ·rw [PN,Tw]at hn;have d:=g 0 (by omega);rw [show a.add 0= a from rfl]at d;obtain ⟨b,off,rfl⟩:=CD d;refine ⟨b,off,rfl,?_,nA d,λi hi=>?_⟩;· have:=nA d;intro c;have c:=c;exact absurd this (by show¬b<_;omega)
   ·rw [PN,Tw]at hi;rw [<-Go.WideShapes.add_plain,g i (by omega)];simp [hi]
structure Th (w:World) (b off:Nat) (x:Ac):Prop where
 c0:w.cell? (zD b off)= some (.int .u8 x.k)
 c1:w.cell? ⟨b,off+1,none⟩= some (zI x.a)
 c2:w.cell? ⟨b,off+2,none⟩= some (zI x.n)
 c3:w.cell? ⟨b,off+3,none⟩= some (.string (Om.B x.d))
 c4:w.cell? ⟨b,off+4,none⟩= some (.slice x.ka x.ks.length x.kc)
 k:x.k<256
 R7: -9223372036854775808<=x.a
 R8:x.a<=9223372036854775807
 R9: -9223372036854775808<=x.n
 R_:x.n<=9223372036854775807
 d:x.d.length<=9223372036854775807
 ks:x.ks.length<=9223372036854775807
 kept:Kept w (λ k=>w.heap.size<=k) x.ka x.ks
instance:Inhabited Ac:=⟨⟨0,0,0, [], [],none,0⟩⟩
theorem vF {n:Int} (h:(Lit.int lg n).wf): -9223372036854775808<=n/\n<=9223372036854775807:=by simp [Lit.wf,V7,V8,V9,V_]at h;omega
theorem Sb {n:Int} (h:(Lit.int .u8 n).wf):∃m:Nat,n= (m:Int)/\m<256:=by simp [Lit.wf,V7,V8,V9,V_]at h;exact ⟨n.toNat,by omega,by omega⟩
theorem Sd:prog.cellsOf 5= 1:=by kernel_rfl
theorem CF:prog.cellsOf 3= 1:=by kernel_rfl
theorem CG:prog.cellsOf 9= 1:=by kernel_rfl
theorem Sf:prog.cellsOf 32= 1:=by kernel_rfl
end
end ae
end
end Go.Proofs.YtchihokmgmchcaaGreat
