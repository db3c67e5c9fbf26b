/- H1, of the proof -/
import Derived.Test.YtchihokmgmchcaaGreatSrM2
import Derived.Test.YtchihokmgmchcaaGreatSrB1
import Derived.Test.YtchihokmgmchcaaGreatSq0K
import Derived.BigQuiet
import Derived.Shelf.Abstract
import Derived.WalkLawsBesides
import Derived.Lib.Agree
set_option linter.unusedVariables false
set_option maxRecDepth 100000
set_option maxHeartbeats 4000000
namespace Go.Proofs.YtchihokmgmchcaaGreat
open Go.Proofs.Tryz
open Go.IntKind renaming i64->lg,u64->wb
open Go.Maps renaming has->UW,size->RH
open Go.Obj renaming cells->hV
open Go.Ending renaming returned->nf
open Go.IntWalk renaming i64_in->rr
open Go.Lib renaming hid->hT,intOf->wo
open Go.RowKit.Below renaming refl->G3
open List renaming getElem?_map->RI,getElem?_replicate->TR,getElem_cons_succ->V4,getElem_cons_zero->V5,getElem_toArray->Vi,replicate->vw,setIfInBounds_toArray->Tz,set_cons_succ->To,set_cons_zero->Tn
open Nat renaming le_refl->nm
open Go.Value renaming slice->AF
open Go.World renaming ownsRow->Tt
open Go.Act renaming eval->SB,put->OW
section
namespace Tb
open Go.RowKit ae
abbrev ag (l:zN):List Value:=l.map (Value.int lg)
abbrev Ints (w:World) (v:Value) (l:zN):Prop:=w.ownsRow 0 3 1 v l.length (ag l)
def fH (D:DataW Unit) (c:zN):Prop:= Maps.IsMap D/\(∀k:Int,UW D (.int lg k)= true↔0<=k/\k∈c)/\∀(i:Nat) (k:Int),c[i]?= some k->0<=k->∀z,D.atKey (.int lg k) z= .lit (.int lg i)
theorem fH.nil:fH (.map []) []:=⟨Maps.isMap_empty,λk=>by simp [UW],λi k h=>by simp at h⟩
def iG (w:World) (b:Nat) (c:zN):Prop:=∃D,w.ownsMap prog 3 (plainElem (H:=Unit) prog 3) b (RH D) D/\fH D c
variable{w:World}{b n:Nat}{D:DataW Unit}
theorem Gb {P:Program} {k:TypeId} {R:Value->Option (DataW Unit×List MemPlace)} (h:w.ownsMap P k R b n D):w.ownsMap P k R b (RH D) D:=by obtain ⟨c,clock,a,F,_,rfl⟩:=h;exact ⟨c,clock,a,F,by simp [RH,length_sorted],rfl⟩
variable{w':World}{c:zN}
theorem iG.same (h:iG w b c) (a:w'.heap[b]?= w.heap[b]?):iG w' b c:=by obtain ⟨D,hm,hk⟩:=h;exact ⟨D,iF hm a,hk⟩
theorem iG.lt (h:iG w b c):b<w.heap.size:=by obtain ⟨D,hm,_⟩:=h;exact hm.lt
theorem sZ (a:w.ownsMap prog 3 (plainElem (H:=Unit) prog 3) b n D) (hk:fH D c) (l:(used c).Nodup):(used c).Perm (intKeys D)/\RH D= (used c).length:=by
 have hp:(used c).Perm (intKeys D):=by
  obtain ⟨i,h,e,_⟩:=a.entries (Maps.int_keyed underlying3);obtain ⟨g,d,f⟩:=a.keysOf;obtain rfl:i= g:=by rw [h]at d;simpa using d
  subst h;exact perm_intKeys e (λp hp=>by obtain ⟨v,k⟩:=f p hp;obtain ⟨x,_,j,_⟩:=Maps.keyOf_i64 underlying3 k;exact ⟨x,j⟩) l (λx=>by rw [hk.2.1 x,nw];exact And.comm)
 refine ⟨hp,?_⟩;rw [hp.length_eq];obtain ⟨i,rfl⟩:=hk.1;simp [intKeys,RH]
structure Ob where
 p:Nat
 mb:Nat
 cv:Value
 gv:Value
def Ob.fp (o:Ob) (k:Nat):Prop:=k= o.p\/k= o.mb\/o.cv.ownBlock= some k\/o.gv.ownBlock= some k
structure Tk (w:World) (o:Ob) (n:Nat) (c g:zN):Prop where
 pr:Pr n c g
 head:w.heap[o.p]?= some (hV #[zI n, .map (some o.mb),o.cv,o.gv] 234 (0,0))
 chunks:Ints w o.cv c
 bF:Ints w o.gv g
 placeOf:iG w o.mb c
 apart:∀k,o.cv.ownBlock= some k->o.gv.ownBlock≠some k
variable{o:Ob}{g:zN}
theorem Tk.lt (h:Tk w o n c g) (k:Nat) (hk:o.fp k):k<w.heap.size:=by
 rcases hk with rfl|rfl|hk|hk;· exact lt_of_heap h.head
 ·exact h.placeOf.lt
 ·obtain ⟨cur,a⟩:=bV h.chunks k hk;exact lt_of_heap a
 ·obtain ⟨cur,a⟩:=bV h.bF k hk;exact lt_of_heap a
theorem Tk.same (h:Tk w o n c g) (hb:∀k,o.fp k->w'.heap[k]?= w.heap[k]?):Tk w' o n c g:= ⟨h.pr,(hb _ (.inl rfl)).trans h.head,bc h.chunks λk hk=>hb k (.inr (.inr (.inl hk))),bc h.bF λk hk=>hb k (.inr (.inr (.inr hk))),h.placeOf.same (hb _ (.inr (.inl rfl))),h.apart⟩
theorem Tk.below (h:Tk w o n c g) (hb:zB w w'):Tk w' o n c g:=h.same λk hk=>hb.block k (h.lt k hk)
theorem Tk.reads (h:Tk w o n c g): w.cell? (zD o.p 0)= some (zI n)/\w.cell? (zD o.p 1)= some (.map (some o.mb))/\w.cell? (zD o.p 2)= some o.cv/\w.cell? (zD o.p 3)= some o.gv/\∀j,w.frozen? (zD o.p j)= false:=by refine ⟨?_,?_,?_,?_,λj=>frozen_of_row _ _ _ _ _ h.head⟩<;>(rw [cell_of_row _ _ _ _ _ _ h.head];rfl)
structure Step (o o':Ob) (w w':World):Prop where
 fr:Fr o.fp w w'
 fp:∀k,o'.fp k->o.fp k\/w.heap.size<=k
 p:o'.p= o.p
theorem Step.refl (o:Ob) (w:World):Step o o w w:=⟨Fr.refl _ _,λ_ h=> .inl h,rfl⟩
theorem Step.trans {a b c:Ob} {u v:World} (h:Step a b u v) (k:Step b c v w):Step a c u w:=by
 refine ⟨h.fr.trans k.fr λi hi hb=>?_,λi hi=>?_,k.p.trans h.p⟩;·
  rcases h.fp i hb with h1|h1;· exact h1
  ·omega
 ·rcases k.fp i hi with h1|h1;· exact h.fp i h1
  ·exact .inr (Nat.le_trans h.fr.size h1)
theorem Step.ax (h:zB w w'):Step o o w w':=⟨Fr.ax h,λ_ h=> .inl h,rfl⟩
theorem Step.below {o':Ob} (h:Step o o' w w') {B:Nat} (hB:B<=w.heap.size) (ho:∀k,o.fp k->B<=k):Below B w w'/\∀k,o'.fp k->B<=k:= ⟨h.fr.below hB ho,λk hk=>(h.fp k hk).elim (ho k) (Nat.le_trans hB)⟩
def ai (o:Ob) (n:Nat) (c g:zN) (w w':World):Prop:=∃o',Tk w' o' n c g/\Step o o' w w'
def Tm (w:World) (o:Ob) (m:zN):Prop:=∃n c g,Tk w o n c g/\full n c= m
variable{m:zN}
theorem Tm.lt (h:Tm w o m) (k:Nat) (hk:o.fp k):k<w.heap.size:=by obtain ⟨n,c,g,a,_⟩:=h;exact a.lt k hk
theorem Tm.same (h:Tm w o m) (b:∀k,o.fp k->w'.heap[k]?= w.heap[k]?):Tm w' o m:=by obtain ⟨n,c,g,a,e⟩:=h;exact ⟨n,c,g,a.same b,e⟩
theorem Tm.keep {F:Nat->Prop} (h:Tm w o m) (hf:Fr F w w') (hd:∀k,o.fp k->¬F k):Tm w' o m:=h.same λk hk=>hf.block k (h.lt k hk) (hd k hk)
theorem Tm.below (h:Tm w o m) (hb:zB w w'):Tm w' o m:=h.same λk hk=>hb.block k (h.lt k hk)
theorem Tm.ok (h:Tm w o m):Ok m:=by obtain ⟨n,c,g,a,rfl⟩:=h;exact a.pr.ok
def gT (o:Ob) (m:zN) (w w':World):Prop:=∃o',Tm w' o' m/\Step o o' w w'
theorem ai.trans {o1:Ob} {w1 w2:World} (h1:Step o o1 w w1) (h:ai o1 n c g w1 w2):ai o n c g w w2:=by obtain ⟨a,hd,b⟩:=h;exact ⟨a,hd,h1.trans b⟩
theorem ai.below {w1 w2:World} (hb:zB w w1) (h:ai o n c g w1 w2):ai o n c g w w2:=ai.trans (Step.ax hb) h
structure Made (m:zN) (B:Nat) (w:World) (e:Ending) (w':World):Prop where
 make:∃o,e= nf (zP o.p)/\Tm w' o m/\∀k,o.fp k->B<=k
 below:Below B w w'
open Go.RowKit ae Go.Maps
theorem ik:Keyed prog 3:=int_keyed underlying3
theorem jF (w:World):(zeroValue 3).run prog w= .ok (zI 0) w:=zeroValue3 w
theorem n_ (k:Int) (h:(Lit.int lg k).wf):keyOf prog 3 (.int lg k)= some (.int lg k):=keyOf_int_mk underlying3 h
theorem tF (n:Int) (w:World):zF 241 #[zI n] w (zQ (.bool (decide (0<=n) && decide (n<=1048576))) w):=by
 by_cases h:0<=n;· have d:=decide_eq_true h;go_enter func241,ntmps241;go_wp2;go_ret;exact ⟨by rw [d];rfl,rfl⟩
 ·have d:=decide_eq_false h;go_enter func241,ntmps241;go_wp2;go_ret;exact ⟨rfl,rfl⟩
theorem x_ (n:Int) (w:World):zF 246 #[zI n] w (zQ (.bool (decide (0<=n/\n<=2147483646))) w):=by
 by_cases h:0<=n;·
  have d:=decide_eq_true h;have a:decide (0<=n/\n<=2147483646)= decide (n<=2147483646):=by simp [h]
  rw [a];clear h a;go_enter func246,ntmps246;go_wp2;go_ret;exact ⟨rfl,rfl⟩
 ·have d:=decide_eq_false h;have a:decide (0<=n/\n<=2147483646)= false:=by simp;omega
  rw [a];clear h a;go_enter func246,ntmps246;go_wp2;go_ret;exact ⟨rfl,rfl⟩
theorem qj (n:Nat) (w:World) (h:n<=1048576):zF 245 #[zI n] w (zQ (zI (a_ n:Int)) w):=by
 have d:lg.wrap ((n:Int) +13)= (n:Int) +13:=by rw [rr _ (by omega)]
 have c:lg.wrap ((n:Int) +13 - 1)= (n:Int) +12:=by rw [rr _ (by omega)];omega
 have a:Hid (((n:Int) +12) / 13= (a_ n:Int)):=hT (by unfold a_;omega);have b:Hid (((n:Int) +12).tdiv 13= (a_ n:Int)):=hT (by rw [Int.tdiv_eq_ediv_of_nonneg (by omega)];unfold a_;omega);have f:=a.out;have e:=b.out;go_enter func245,ntmps245;go_wp2;go_ret;exact ⟨by first|rfl|(rw [<-a.out];first|rfl|(congr 2;omega)),rfl⟩
theorem tG (h:Tm w o m) (k:Int) (hk:(Lit.int lg k).wf):zF 164 #[zP o.p, .int lg k] w λe w'=>e= zV (.int lg (((find m k).getD 0:Nat):Int)) (.bool (find m k).isSome)/\w= w':=by
 obtain ⟨n,c,g,r,rfl⟩:=h;obtain ⟨_,h1,_,_,_⟩:=r.reads;obtain ⟨D,a,hm⟩:=r.placeOf;have t:=hT (n_ k hk);have y:=hT a;have f:Hid (UW D (.int lg k)= (find (full n c) k).isSome/\D.atKey (.int lg k) (.lit (.int lg 0))= .lit (.int lg (((find (full n c) k).getD 0:Nat):Int))):=by refine hT ?_;cases hf:find (full n c) k with
  | none =>
  have s:UW D (.int lg k)= false:=by rw [Bool.eq_false_iff];intro e;obtain ⟨d,l⟩:=(hm.2.1 k).1 e;exact ic.1 hf d ((ma d).2 l)
  exact ⟨s,by rw [Maps.atKey_of_not_has s];rfl⟩
  | some i => obtain ⟨d,hi,_⟩:=iz.1 hf;have l:=wH hi d;exact ⟨(hm.2.1 k).2 ⟨d,List.mem_of_getElem? l⟩,hm.2.2 i k l d _⟩
 clear r a hm hk;go_enter func164,ntmps164;go_wp2_with (at_lookup;refine wpList_lookup_own_ok_int _ rfl _ _ 80 rfl 3 3 lg ik underlying80 underlying3 (jF _) o.mb (RH D) D rfl y.out _ (.int lg k) rfl t.out ?_;intro x b q;have z:=hT b;clear b q);go_ret2;obtain ⟨v,u⟩:=f.out;have j:=z.out.symm.trans u;injection j with j;injection j with _ j;exact ⟨by rw [v,j];rfl,rfl⟩
theorem yc (h:Tm w o m):zF 141 #[zP o.p] w (zJ (zI ((m.length - (used m).length:Nat):Int)) w):=by
 obtain ⟨n,c,g,e,rfl⟩:=h;obtain ⟨t,h1,_,_,_⟩:=e.reads;obtain ⟨D,a,hk⟩:=e.placeOf;have d:=nx e.pr.ok;have hle:(used (full n c)).length<=(full n c).length:=mf _;rw [nv e.pr.len]at hle⊢;rw [me]at d hle⊢;obtain ⟨_,b⟩:=sZ a hk d;have i:=e.pr.aS;have q:=hT a;obtain ⟨s,f⟩:=eX1 ((used c).length);rw [<-f]at b hle⊢;have j:(n:Int) - (s:Int)= ((n - s:Nat):Int):=by omega
 have hlen:∀W:World,(∀k:Nat,W.heap[k]?= w.heap[k]?)->(Builtin.len_ #[80] 3 #[.map (some o.mb)]).run prog W= .ok (zI s) W:=by intro W l;have:=(iF q.out (l o.mb)).len underlying80 3;rwa [b]at this
 have r:=hlen w.drew (λ_=>rfl);clear e a hk d f b hlen;go_enter func141,ntmps141;go_wp2;go_region;all_goals go_wp2;go_ret;exact ⟨by first|rfl|(rw [<-j];rfl),by first|exact G3 _ _|exact zR.drew⟩
open Go.Shelf Go.RowKit
theorem jD:(prog.info? 3).map (λi=>(i.zero,i.size,i.bytes))= some (some (zI 0),1,8):=by kernel_rfl
theorem yd (l:zN):∀u∈l.map (Value.int lg),u.oneCell'= true:=by intro u hu;obtain ⟨x,_,rfl⟩:=List.mem_map.1 hu;rfl
open Go.RowKit ae
variable{a:Option Addr}{l:zN}
theorem fi {c:Nat} (h:Ints w (.slice a l.length c) l) (i:Nat) (hi:i<l.length):∃b,a= some ⟨b,0,none⟩/\b<w.heap.size/\w.cell? (zD b i)= some (zI (Hp.at_ l i))/\w.frozen? (zD b i)= false:=by
 rcases h.2 with ⟨h1,f⟩|⟨b,cap,cur,e,_,d,_⟩;· omega
 ·injection e with h1 f h3;subst h1;subst h3;refine ⟨b,rfl,lt_of_heap d,?_,frozen_of_row _ _ _ _ _ d⟩;rw [h.cellAt i (by omega),RI,Hp.iX l i hi];rfl
theorem fZ {v:Value} (h:Ints w v l):∃a c,v= .slice a l.length c:=ck h
theorem tH {c:Nat} (h:Ints w (.slice a l.length c) l) (d:0<l.length):∃b,a= some ⟨b,0,none⟩:=by obtain ⟨b,e,_⟩:=fi h 0 d;exact ⟨b,e⟩
theorem jG {c:Nat} (h:Ints w (.slice a g.length c) g) (i j:Nat) (hi:i<g.length) (m:j<g.length) (o:g.length<=2097152): zF 327 #[.slice a g.length c,zI i,zI j] w (zJ (.bool (decide (Hp.at_ g i<Hp.at_ g j))) w):=by obtain ⟨b,rfl,p,e,_⟩:=fi h i hi;obtain ⟨_,_,_,d,_⟩:=fi h j m;cases ‹some _= some _›;obtain ⟨n,l⟩:=eX1 g.length;obtain ⟨x,k⟩:=eX1 (Hp.at_ g i);obtain ⟨y,f⟩:=eX1 (Hp.at_ g j);rw [<-l]at hi m o⊢;rw [<-k]at e⊢;rw [<-f]at d⊢;clear l k f h;go_enter func327,ntmps327;go_wp2;go_quiet (fail);go_wp2;go_ret;exact ⟨rfl,by first|exact G3 _ _|exact zR.drew|exact ⟨rfl,rfl,rfl,nm _,λ_ _=>rfl⟩⟩
theorem ints_set {cap:Nat} (h:w.ownsRow 0 3 1 (zS b l.length cap) l.length (ag l)) (i:Nat) (x:Int): (w.setCell ⟨b,i,none⟩ (zI x)).ownsRow 0 3 1 (zS b l.length cap) l.length (ag (l.set i x))/\Fr (λk=>k= b) w (w.setCell ⟨b,i,none⟩ (zI x)):=by obtain ⟨h1,a⟩:=h.stored i (zI x);refine ⟨?_,Fr.jz a (λk e=>by injection e with e;exact e.symm)⟩;rw [ag,List.map_set];exact h1
theorem oa {c:Nat} (h:Ints w (.slice a g.length c) g) (i j:Nat) (hi:i<g.length) (s:j<g.length) (F:g.length<=2097152): zF 328 #[.slice a g.length c,zI i,zI j] w λe w'=>e= nf (.tuple #[])/\Ints w' (.slice a g.length c) (Hp.swap g i j)/\Fr (λk=>(AF a g.length c).ownBlock= some k) w w':=by
 obtain ⟨b,rfl,O,u,I⟩:=fi h i hi;obtain ⟨_,e,_,t,G⟩:=fi h j s;cases e;obtain ⟨n,m⟩:=eX1 g.length;obtain ⟨x,q⟩:=eX1 (Hp.at_ g i);obtain ⟨y,p⟩:=eX1 (Hp.at_ g j);have H:=hT h;have v:=hT m;have M:=hT q;have L:=hT p;rw [<-m]at hi s F;rw [<-q]at u;rw [<-p]at t;rw [<-m];have done:∀w1:World,(∀k:Nat,w1.heap[k]?= w.heap[k]?)->w1.os= w.os->w1.tape= w.tape->w1.output= w.output->w1.heap.size= w.heap.size-> Ints ((w1.setCell ⟨b,i,none⟩ (zI y)).setCell ⟨b,j,none⟩ (zI x)) (zS b n c) (Hp.swap g i j)/\ Fr (λk=>(AF (some ⟨b,0,none⟩) n c).ownBlock= some k) w ((w1.setCell ⟨b,i,none⟩ (zI y)).setCell ⟨b,j,none⟩ (zI x)):=by
  intro w1 l E D hp N;have h1:Ints w1 (zS b g.length c) g:=bc H.out λk _=>l k;obtain ⟨o,f1⟩:=ints_set h1 i y;have f:(w1.setCell ⟨b,i,none⟩ (zI y)).ownsRow 0 3 1 (AF (some ⟨b,0,none⟩) (g.set i y).length c) (g.set i y).length (ag (g.set i y)):=by simpa using o
  obtain ⟨A,K⟩:=ints_set f j x;have f0:Fr (λk=>k= b) w w1:=⟨E,D,hp,by omega,λk _ _=>l k⟩;refine ⟨?_,((f0.trans f1 (λ_ _ e=>e)).trans K (λ_ _ e=>e)).mono (λk _ e=>by rw [e];rfl)⟩;have e:Hp.swap g i j= (g.set i y).set j x:=by unfold Hp.swap;rw [<-M.out,<-L.out]
  rw [e];show Tt _ _ _ _ _ _ _;rw [v.out];simpa using A
 have r:∃z,(w.setCell ⟨b,i,none⟩ (zI y)).cell? (zD b j)= some (zI z)/\(w.setCell ⟨b,i,none⟩ (zI y)).frozen? (zD b j)= false:=by
  obtain ⟨o,_⟩:=ints_set H.out i y;have f:Ints (w.setCell ⟨b,i,none⟩ (zI y)) (AF (some ⟨b,0,none⟩) (g.set i y).length c) (g.set i y):=by show Tt _ _ _ _ _ _ _;simpa using o
  obtain ⟨_,e,_,h1,J⟩:=fi f j (by simpa [<-v.out] using s);cases e;exact ⟨_,h1,J⟩
 obtain ⟨z,C,B⟩:=r;have d:=hT done;clear m q p h done;go_enter func328,ntmps328;go_wp2;go_region;all_goals go_wp2;go_end0;first
  | exact ⟨rfl,d.out _ (λ_=>rfl) rfl rfl rfl rfl⟩
  | (refine ⟨rfl,?_⟩;exact d.out w.drew (λ_=>rfl) rfl rfl rfl rfl)
theorem ye (a:Option Addr) (n c:Nat):zF 326 #[.slice a n c] w (zQ (zI n) w):=by go_enter func326,ntmps326;go_wp2;go_ret;exact ⟨rfl,rfl⟩
open Go.RowKit ae Go.Maps
theorem Ih (w:World):zF 257 #[.int wb 1, .int wb 13] w λe w'=>e= zV (.int wb 0) (.int wb 13)/\w= w':=by
 have b1:bits .and wb 1 4294967295= 1:=by decide
 have b2:bits .and wb 13 4294967295= 13:=by decide
 have b3:bits .and wb 0 4294967295= 0:=by decide
 go_enter func257,ntmps257;go_wp2;go_ret2;exact ⟨rfl,rfl⟩
theorem Ii (w:World):zF 223 #[.int wb 1, .int wb 13] w λe w'=>e= zV (.int wb 0) (.int wb 13)/\w= w':=by go_enter func223,ntmps223;go_wp2_with (go_at_call 257;refine zh (Ih _) ?_);go_ret2;exact ⟨rfl,rfl⟩
def rp (k:Nat):List Value:=ag (vw k (-1) ++ vw (13 - k) 0)
theorem oc (k:Nat):∀v∈ag (vw k (-1:Int)),v.oneCell'= true:=yd _
theorem jH:(prog.info? 3).map (·.size)= some 1:=by kernel_rfl
theorem qk {g k:Nat} (h:w.heap[g]?= some (hV (rp k).toArray 3 (0,0))) (n:Nat) (f:n<=k) (a:Nat) (d:a= 0):∀j v,(ag (vw n (-1:Int)))[j]?= some v->w.cell? ((⟨g,a,none⟩:Addr).add j)= some v:=by
 subst d;intro j v b;have c:j<n:=by have:=(List.getElem?_eq_some_iff.1 b).1;simpa using this
 rw [Addr.add_lit,Nat.zero_add,cell_of_row _ _ _ _ _ _ h];have e:(rp k)[j]?= some (zI (-1)):=by unfold rp;rw [RI,List.getElem?_append_left (by simp;omega),TR,if_pos (by omega)];rfl
 rw [RI,TR,if_pos c]at b;rw [<-b];simpa using e
theorem Ij {X:Nat} (h:w.ownsRow 0 3 1 (zS X 13 13) 13 (madeCells (Value.int lg 0).cells (13*1)).toList):Hid (w.heap[X]?= some (hV (rp 0).toArray 3 (0,0))):=by
 rcases h.2 with ⟨h1,_⟩|⟨b,cap,cur,a,_,c,_,_,f,d⟩;· cases h1
 ·injection a with a _ hcap;injection a with a;injection a with a;subst a;subst hcap;have e:cur.toList= rp 0:=by rw [<-List.take_of_length_le (l:=cur.toList) (i:=13*1) (by simp [f]),d];exact (toList_madeCells_one (zI 0) 13).trans rfl
  refine hT ?_;rw [c,<-e]
theorem mD {B:Nat} {w1:World} (h:Below B w w1):Below B w w1.drew:=⟨h.os,h.tape,h.output,h.size,h.block⟩
theorem pG (D:b<w.heap.size) (A:w.cell? (zD b 0)= some (zI (-1))): zF 277 #[zS b 1 1,zI 13] w λe w'=>e= nf (zS w.heap.size 13 13)/\w'.heap[w.heap.size]?= some (hV (rp 13).toArray 3 (0,0))/\zB w w':=by
 obtain ⟨C,hi,y,x,u⟩:=info_parts jD;have r:Hid (∀w1,zB w w1->∀j v,(ag [(-1:Int)])[j]?= some v->w1.cell? ((⟨b,0,none⟩:Addr).add j)= some v):=hT λw1 hb1 j v hv=>by cases j with
  | zero => rw [Addr.add_lit,Nat.zero_add];exact ((hb1.cell (p:=(zD b 0)) D).trans A).trans hv
  | succ j=>simp at hv
 have ONE:=hT (oc 1);go_enter func277,ntmps277;go_wp2_with (first
  | (go_at_call 223;refine zh (Ii _) ?_)
  | (at_make;refine wpList_make_full _ rfl _ _ 59 rfl 0 3 C _ 1 underlying59 hi y x lg lg _ _ 13 rfl rfl rfl rfl (by rw [u];omega) (by unfold maxLen;omega) (Nat.zero_le _) ?_;intro w1 o q;have z:=hT ((G3 w.heap.size w).grown q (nm _) (λk e=>by cases e));have B:=Ij o;clear o q)
  | (refine wpList_copy_splice rfl (.tmp 31) (.tmp 32) 59 59 rfl 3 underlying59 jH (some ⟨w.heap.size,0,none⟩) (some ⟨b,0,none⟩) 13 13 1 1 rfl rfl w.heap.size 0 (rp 0) 3 B.out (ag [(-1:Int)]) rfl (λ_=>⟨rfl,⟨b,0,none⟩,rfl,r.out w1 z.out⟩) (by decide) ONE.out w.heap.size w z.out (nm _) ?_;intro w2 a c;have g:Hid (w2.heap[w.heap.size]?= some (hV (rp 1).toArray 3 (0,0))):=a;have h:=hT c;clear a c));go_loopw [8] (λv wr=>∃k:Nat,v= zI k/\(k= 1\/k= 2\/k= 4\/k= 8\/k= 13)/\Hid (wr.heap[w.heap.size]?= some (hV (rp k).toArray 3 (0,0)))/\Hid (zB w wr)) (λv _=>13 - (wo v).toNat);case atStart=>exact ⟨1,rfl, .inl rfl,g,h⟩
 case round=>
  obtain ⟨k,rfl,hk,s,t⟩:=hrel;clear g h B z r ONE A;rcases hk with rfl|rfl|rfl|rfl|rfl;·
   have H1:=s.out;have d:=hT (oc 1);have n:Hid (∀w1:World,w1.heap[w.heap.size]?= some (hV (rp 1).toArray 3 (0,0))->∀j v,(ag (vw 1 (-1:Int)))[j]?= some v->w1.cell? ((⟨w.heap.size,0,none⟩:Addr).add j)= some v):=hT λw1 h1=>qk h1 1 (by omega) 0 rfl;have m:lg.wrap 2= 2:=by decide
   have l:lg.wrap 4= 4:=by decide
   have i:lg.wrap 8= 8:=by decide
   have f:lg.wrap 13= 13:=by decide
   go_wp2;go_region_law (refine step_copy_splice rfl (.tmp 41) (.tmp 44) 59 59 rfl 3 underlying59 jH (some ⟨w.heap.size,1,none⟩) (some ⟨w.heap.size,0,none⟩) 12 12 1 13 (by simp [SB,OW]) (by simp [SB,OW]) w.heap.size 1 (rp 1) 3 H1 (ag (vw 1 (-1:Int))) rfl (λ_=>⟨rfl,⟨w.heap.size,0,none⟩,rfl,n.out _ H1⟩) (by decide) d.out w.heap.size w (mD t.out) (nm _) ?_;intro w2 a c;have g:Hid (w2.heap[w.heap.size]?= some (hV (rp 2).toArray 3 (0,0))):=a;have h:=hT c;clear a c);all_goals
    simp only [Vi,V4,V5,OW,Tz,To,Tn];go_wp2;go_roundw;case rel=>exact ⟨2,by go_num,by decide,g,h⟩
    case measure=>simp [wo]
  ·have H1:=s.out;have d:=hT (oc 2);have n:Hid (∀w1:World,w1.heap[w.heap.size]?= some (hV (rp 2).toArray 3 (0,0))->∀j v,(ag (vw 2 (-1:Int)))[j]?= some v->w1.cell? ((⟨w.heap.size,0,none⟩:Addr).add j)= some v):=hT λw1 h1=>qk h1 2 (by omega) 0 rfl;have m:lg.wrap 2= 2:=by decide
   have l:lg.wrap 4= 4:=by decide
   have i:lg.wrap 8= 8:=by decide
   have f:lg.wrap 13= 13:=by decide
   go_wp2;go_region_law (refine step_copy_splice rfl (.tmp 41) (.tmp 44) 59 59 rfl 3 underlying59 jH (some ⟨w.heap.size,2,none⟩) (some ⟨w.heap.size,0,none⟩) 11 11 2 13 (by simp [SB,OW]) (by simp [SB,OW]) w.heap.size 2 (rp 2) 3 H1 (ag (vw 2 (-1:Int))) rfl (λ_=>⟨rfl,⟨w.heap.size,0,none⟩,rfl,n.out _ H1⟩) (by decide) d.out w.heap.size w (mD t.out) (nm _) ?_;intro w2 a c;have g:Hid (w2.heap[w.heap.size]?= some (hV (rp 4).toArray 3 (0,0))):=a;have h:=hT c;clear a c);all_goals
    simp only [Vi,V4,V5,OW,Tz,To,Tn];go_wp2;go_roundw;case rel=>exact ⟨4,by go_num,by decide,g,h⟩
    case measure=>simp [wo]
  ·have H1:=s.out;have d:=hT (oc 4);have n:Hid (∀w1:World,w1.heap[w.heap.size]?= some (hV (rp 4).toArray 3 (0,0))->∀j v,(ag (vw 4 (-1:Int)))[j]?= some v->w1.cell? ((⟨w.heap.size,0,none⟩:Addr).add j)= some v):=hT λw1 h1=>qk h1 4 (by omega) 0 rfl;have m:lg.wrap 2= 2:=by decide
   have l:lg.wrap 4= 4:=by decide
   have i:lg.wrap 8= 8:=by decide
   have f:lg.wrap 13= 13:=by decide
   go_wp2;go_region_law (refine step_copy_splice rfl (.tmp 41) (.tmp 44) 59 59 rfl 3 underlying59 jH (some ⟨w.heap.size,4,none⟩) (some ⟨w.heap.size,0,none⟩) 9 9 4 13 (by simp [SB,OW]) (by simp [SB,OW]) w.heap.size 4 (rp 4) 3 H1 (ag (vw 4 (-1:Int))) rfl (λ_=>⟨rfl,⟨w.heap.size,0,none⟩,rfl,n.out _ H1⟩) (by decide) d.out w.heap.size w (mD t.out) (nm _) ?_;intro w2 a c;have g:Hid (w2.heap[w.heap.size]?= some (hV (rp 8).toArray 3 (0,0))):=a;have h:=hT c;clear a c);all_goals
    simp only [Vi,V4,V5,OW,Tz,To,Tn];go_wp2;go_roundw;case rel=>exact ⟨8,by go_num,by decide,g,h⟩
    case measure=>simp [wo]
  ·have H1:=s.out;have d:=hT (oc 5);have n:Hid (∀w1:World,w1.heap[w.heap.size]?= some (hV (rp 8).toArray 3 (0,0))->∀j v,(ag (vw 5 (-1:Int)))[j]?= some v->w1.cell? ((⟨w.heap.size,0,none⟩:Addr).add j)= some v):=hT λw1 h1=>qk h1 5 (by omega) 0 rfl;have m:lg.wrap 2= 2:=by decide
   have l:lg.wrap 4= 4:=by decide
   have i:lg.wrap 8= 8:=by decide
   have f:lg.wrap 13= 13:=by decide
   go_wp2;go_region_law (refine step_copy_splice rfl (.tmp 41) (.tmp 44) 59 59 rfl 3 underlying59 jH (some ⟨w.heap.size,8,none⟩) (some ⟨w.heap.size,0,none⟩) 5 5 8 13 (by simp [SB,OW]) (by simp [SB,OW]) w.heap.size 8 (rp 8) 3 H1 (ag (vw 5 (-1:Int))) rfl (λ_=>⟨rfl,⟨w.heap.size,0,none⟩,rfl,n.out _ H1⟩) (by decide) d.out w.heap.size w (mD t.out) (nm _) ?_;intro w2 a c;have g:Hid (w2.heap[w.heap.size]?= some (hV (rp 13).toArray 3 (0,0))):=a;have h:=hT c;clear a c);all_goals
    simp only [Vi,V4,V5,OW,Tz,To,Tn];go_wp2;go_roundw;case rel=>exact ⟨13,by go_num,by decide,g,h⟩
    case measure=>simp [wo]
  ·go_wp2;go_ret;exact ⟨rfl,s.out,t.out⟩
end Tb
end
end Go.Proofs.YtchihokmgmchcaaGreat
