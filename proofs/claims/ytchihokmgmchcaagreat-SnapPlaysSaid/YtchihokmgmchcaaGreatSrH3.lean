/- H3, of the proof -/
import Derived.Test.YtchihokmgmchcaaGreatSrH2
import Derived.Test.YtchihokmgmchcaaGreatSq0K
import Derived.Shelf.SlIterI.Nil
import Derived.Shelf.SortM.Plain
import Derived.Shelf.SortM.SortNone
set_option linter.unusedVariables false
set_option maxRecDepth 100000
set_option maxHeartbeats 4000000
namespace Go.Proofs.YtchihokmgmchcaaGreat
open Go.Proofs.Tryz
open Go.Obj renaming cells->hV
open List renaming append_assoc->NR,filter_append->UP,getElem?_eq_getElem->C1,getElem?_eq_some_iff->C2,getElem?_map->RI,getElem?_of_mem->TF,getElem?_set->P4,length_append->DC,length_pos_iff->UO,length_singleton->T3,map_append->R0,mem_append->RR,mem_of_getElem?->P1,mem_singleton->H5,replicate->vw,replicate_succ'->VG,take_add_one->Wy,take_of_length_le->OP
open Go.World renaming cell?_of_block->TZ,news_of_block->Ul,ownsRow->Tt,ownsRow_nil->Ts
open Go.Value renaming pointer->xb,slice->AF,tuple->CE
open Go.Ending renaming returned->nf
open Go.Lib renaming hid->hT,intOf->wo
open Go.RowKit.Below renaming heap_alloc->PC,heap_setCell->L2,refl->G3
open Nat renaming le_refl->nm,lt_of_lt_of_le->ti,zero_le->yb
open Go.IntKind renaming bits->V_,i64->lg,max->V8,min->V7,signed->V9
open Go.IntWalk renaming i64_in->rr
open List.Perm renaming refl->V6
open Go.Maps renaming size->RH
open Go.Lit renaming int->PO
open Int renaming toNat_natCast->GH
open Bool renaming and_eq_true->N6,eq_false_iff->Uc
open Go.Shelf renaming Ren->UU
open Go.Fence renaming wide->TT
section
namespace Tb
open Go.RowKit ae
structure Gh (w:World) (p:Nat) (v0 v1 v2 gv:Value) (g:zN):Prop where
 head:w.heap[p]?= some (hV #[v0,v1,v2,gv] 234 (0,0))
 row:Ints w gv g
variable{w:World}{p:Nat}{v0 v1 v2 gv:Value}{g:zN}
theorem Gh.lt (h:Gh w p v0 v1 v2 gv g):p<w.heap.size:=lt_of_heap h.head
theorem Gh.ne (h:Gh w p v0 v1 v2 gv g):gv.ownBlock≠some p:=λe=>by obtain ⟨cur,a⟩:=bV h.row _ e;rw [h.head]at a;injection a with a;injection a with _ a;cases a
theorem Gh.yg (h:Gh w p v0 v1 v2 gv g) (k:Nat) (hk:gv.ownBlock= some k):k<w.heap.size:=by obtain ⟨cur,a⟩:=bV h.row k hk;exact lt_of_heap a
variable{w':World}
theorem Gh.same (h:Gh w p v0 v1 v2 gv g) (hp:w'.heap[p]?= w.heap[p]?) (hr:∀k,gv.ownBlock= some k->w'.heap[k]?= w.heap[k]?):Gh w' p v0 v1 v2 gv g:= ⟨hp.trans h.head,bc h.row hr⟩
theorem Gh.below (h:Gh w p v0 v1 v2 gv g) (hb:zB w w'):Gh w' p v0 v1 v2 gv g:=h.same (hb.block p h.lt) λk hk=>hb.block k (h.yg k hk)
theorem Gh.cell (h:Gh w p v0 v1 v2 gv g):w.cell? (zD p 3)= some gv:=zW h.head
theorem Gh.frozen (h:Gh w p v0 v1 v2 gv g):w.frozen? (zD p 3)= false:=frozen_of_row _ _ _ _ _ h.head
def Gf (p:Nat) (gv:Value) (k:Nat):Prop:=k= p\/gv.ownBlock= some k
structure Gs (p:Nat) (gv gv':Value) (w w':World):Prop where
 fr:Fr (Gf p gv) w w'
 own:∀k,gv'.ownBlock= some k->gv.ownBlock= some k\/w.heap.size<=k
theorem Gs.refl (p:Nat) (gv:Value) (w:World):Gs p gv gv w w:=⟨Fr.refl _ _,λ_ h=> .inl h⟩
theorem Gs.trans {a b c:Value} {u v:World} (h:Gs p a b u v) (k:Gs p b c v w) (hp:p<u.heap.size):Gs p a c u w:=by
 refine ⟨h.fr.trans k.fr λi hi hb=>?_,λi hi=>?_⟩;·
  rcases hb with e|e;· exact .inl e
  ·rcases h.own i e with h1|h1;· exact .inr h1
   ·omega
 ·rcases k.own i hi with h1|h1;· exact h.own i h1
  ·exact .inr (Nat.le_trans h.fr.size h1)
theorem tK (x:Int):∀u∈([zI x]:List Value),u.oneCell'= true:=λu hu=>by rw [H5.1 hu];rfl
structure jf (w:World) (gv:Value) (l:zN) (x:Int) (b cap:Nat) (w2:World):Prop where
 row:w2.ownsRow 0 3 1 (zS b (l.length+1) cap) (l.length+1) (ag (l ++ [x]))
 fr:Fr (λ k=>gv.ownBlock= some k) w w2
 own:gv.ownBlock= some b\/w.heap.size<=b
variable{l:zN}{n b:Nat}{x:Int}{w1 w2:World}
theorem jf.of {cap:Nat} (d:n= l.length) (g:zB w w1) (a:w2.ownsRow 0 3 1 (zS b (n+1) cap) (n+1) (ag l ++ [zI x])) (f:w1.grownBy w2 gv.ownBlock) (c:gv.ownBlock= some b\/b= w.heap.size+1):jf w gv l x b cap w2:=by subst d;refine ⟨by rw [ag,R0];exact a,(Fr.ax g).trans (Fr.jz (F:=λk=>gv.ownBlock= some k) f λk e=>e) (λ_ _ e=>e),c.imp id (λe=>by omega)⟩
theorem yh {cap:Nat} (a:n= l.length) (h:w.ownsRow 0 3 1 (zS b (n+1) cap) (n+1) (ag (l ++ [x]))):Ints w (zS b (n+1) cap) (l ++ [x]):=by subst a;show Tt _ _ _ _ _ _ _;rw [DC,T3];exact h
theorem yi (x:Int) (w:World):(Instr.typeAssert (.iface 3 (zI x)) 20 3 false).run prog w= .ok (zI x) w:=by kernel_rfl
theorem Io (h:Gh w p v0 v1 v2 gv g) (x:Int) (L:g.length<=1048576): zF 330 #[xb (some ⟨p,3,none⟩), .iface 3 (zI x)] w λe w'=>e= nf (CE #[])/\∃gv',Gh w' p v0 v1 v2 gv' (g ++ [x])/\Gs p gv gv' w w':=by
 obtain ⟨J,hi,z,y,v⟩:=info_parts jD;obtain ⟨a,c,rfl⟩:=fZ h.row;have I:=h.cell;have i:=h.row;have B:=h.lt;obtain ⟨n,o⟩:=eX1 g.length;rw [<-o]at I L;have m:zB w (w.alloc (hV #[zI x] 3)).drew:=zA.drew;have C:Hid ((w.alloc (hV #[zI x] 3)).drew.ownsRow 0 3 1 (.slice a n c) n (ag g)):=by have:=bc (w':=(w.alloc (hV #[zI x] 3)).drew) i λk hk=>m.block k (h.yg k hk);rwa [<-o]at this
 have t:Hid (∀j u,([zI x]:List Value)[j]?= some u->(w.alloc (hV #[zI x] 3)).drew.cell? ((⟨w.heap.size,0,none⟩:Addr).add j)= some u):= Ul (cs:=#[zI x]) (show (w.alloc _).heap[w.heap.size]?= _ from heap_alloc_new _ _);have ONE:=hT (tK x);have M:(w.alloc (hV #[zI x] 3)).cell? (zD p 3)= some (.slice a n c):=(TZ (w:=w) (a:=(zD p 3)) (PC _ _ _ B)).trans I;have H:Hid (Gh w p v0 v1 v2 (.slice a n c) g):=by rw [o];exact h
 have D:=hT o;have E:=hT m;rw [<-o];have K:=yi x;clear h o i m;go_enter func330,ntmps330;go_wp2;go_region_law (refine step_append_lies _ rfl (.tmp 7) (.tmp 10) 232 rfl 0 3 J _ 1 8 underlying232 hi z y v rfl (by decide) (.slice a n c) n (ag g) (by simp [Act.eval]) C.out ⟨w.heap.size,0,none⟩ 1 1 [zI x] (by simp [Act.eval]) rfl t.out ONE.out (by omega) (by unfold maxLen;omega) (by omega) (yb _) (w.heap.size+1) (by simp) ?_;intro b cap w2 f s l q;have d:=hT (jf.of D.out E.out f s l);have r:=(d.out.fr.block p H.out.lt H.out.ne).trans H.out.head;have c4:w2.cell? (zD p 3)= some (.slice a n c):=(zW r);have N:w2.frozen? (zD p 3)= false:=frozen_of_row _ _ _ _ _ r;clear r f s l q);all_goals
  go_wp2;go_end0;have r:=(d.out.fr.block p H.out.lt H.out.ne).trans H.out.head;have A:b≠p:=λe=>by
   rcases d.out.own with h1|h1;· exact H.out.ne (by rw [h1,e])
   ·have:=H.out.lt;omega
  refine ⟨rfl, zS b (n+1) cap,⟨?_,?_⟩,?_,?_⟩;· rw [heap_setCell_same _ _ _ _ _ _ r];rfl
  ·have G:=d.out.row;rw [<-D.out]at G;exact bc (yh D.out G) λk hk=>L2 _ _ _ _ (by intro e;injection hk with hk;exact A (hk.trans e))
  ·exact Fr.setCell (F:=Gf p (.slice a n c)) (d.out.fr.mono λk _ e=> .inr e) _ (.inl rfl) _
  ·intro k hk;injection hk with hk;subst hk;exact d.out.own
variable{a:Option Addr}
theorem Ip {c:Nat} (h:Ints w (.slice a g.length c) g) (f:g.length= n+1):Ints w (.slice a n c) (g.take n):=by
 have d:(g.take n).length= n:=by simp [f]
 show Tt _ _ _ _ _ _ _;rw [d];rcases h.2 with ⟨_,o⟩|⟨b,cap,cur,e,j,i,h1,m,l,k⟩;· omega
 ·injection e with e1 e2 e3;subst e1;subst e3;refine ⟨by simpa using d, .inr ⟨b,c,cur,rfl,j,i,by omega,m,l,?_⟩⟩;have:=congrArg (List.take (n*1)) k;rw [List.take_take,show min (n*1) (g.length*1)= n*1 by omega]at this;rw [this,Nat.mul_one,ag,ag,List.map_take]
theorem Iq (h:Gh w p v0 v1 v2 gv g) (n:Nat) (f:g.length= n+1) (o:g.length<=1048576): zF 329 #[xb (some ⟨p,3,none⟩)] w λe w'=>e= nf (.iface 3 (zI (Hp.at_ g n)))/\∃gv',Gh w' p v0 v1 v2 gv' (g.take n)/\Gs p gv gv' w w':=by
 obtain ⟨a,c,rfl⟩:=fZ h.row;have q:=h.cell;have y:=h.frozen;obtain ⟨b,rfl,z,i,_⟩:=fi h.row n (by omega);have l:n+1<=c:=by
  rcases h.row.2 with ⟨h1,A⟩|⟨b',cap,cur,m,_,_,h1,_⟩;· omega
  ·injection m with _ _ e;omega
 have r:=hT (Ip h.row f);obtain ⟨x,j⟩:=eX1 (Hp.at_ g n);rw [<-j]at i⊢;rw [f]at q o;have H:=hT h;clear j h f;have v:n<=c:=by omega
 have u:lg.wrap ((n:Int) +1 - 1)= (n:Int):=by rw [rr _ (by omega)];omega
 have t:(n:Int) +1 - 1= (n:Int):=by omega
 have s:((n+1:Nat):Int)= (n:Int) +1:=by omega
 go_enter func329,ntmps329;go_wp2;go_ret;have d:b≠p:=λe=>H.out.ne (by rw [<-e];rfl);refine ⟨rfl, zS b n c,⟨?_,?_⟩,?_,?_⟩;· rw [heap_setCell_same _ _ _ _ _ _ H.out.head];rfl
 ·exact bc r.out λk hk=>L2 _ _ _ _ (by intro e;injection hk with hk;exact d (hk.trans e))
 ·exact Fr.setCell (Fr.refl (Gf p _) _) _ (.inl rfl) _
 ·exact λk hk=> .inl hk
theorem Ir (F : Nat) (a : Addr) (w : World) : (method (F + 1) 310 (xb (some a)) "Push").run prog w = .ok (330, xb (some a)) w := by kernel_rfl
theorem Is (F : Nat) (a : Addr) (w : World) : (method (F + 1) 310 (xb (some a)) "Pop").run prog w = .ok (329, xb (some a)) w := by kernel_rfl
theorem It (ts:Array TypeId) (t:TypeId) (a:Addr) (x y:String) (w:World):(Builtin.ssaWrapNilChk_ ts t #[xb (some a),strVal x,strVal y]).run prog w= .ok (xb (some a)) w:=rfl
theorem tL (F:Nat) {p:Nat} {gv:Value} (w:World) (h:w.cell? (zD p 3)= some gv) (name:String) (f:FuncId) (hm:(prog.info? 310).bind (λi=>(i.methods.find? (λx=>x.name == name)).map λm=>(m.path.toList,m.path.isEmpty,m.func))= some ([],true,some (f,false))): (method (F+1) 310 (xb (some ⟨p,3,none⟩)) name).run prog w= .ok (f,gv) w:=by
 obtain ⟨j,hi,h1⟩:=Option.bind_eq_some_iff.1 hm;obtain ⟨m,g,c⟩:=Option.map_eq_some_iff.1 h1;simp only [Prod.mk.injEq]at c;obtain ⟨k,e,d⟩:=c;have b:m.path= #[]:=by simpa using e
 have a:=isAgg232;simp [method,typeInfo,hi,g,b,d,follow,receiverAt,Place.get,go_sem,run_underlying underlying310,It,asAddr,Result.andThen,a,h]
theorem yj (F : Nat) {p : Nat} {gv : Value} (w : World) (h : w.cell? ⟨p, 3, none⟩ = some gv) : (method (F + 1) 310 (xb (some ⟨p, 3, none⟩)) "Len").run prog w = .ok (326, gv) w := tL F w h "Len" _ (by kernel_rfl)
theorem mE (F : Nat) {p : Nat} {gv : Value} (w : World) (h : w.cell? ⟨p, 3, none⟩ = some gv) : (method (F + 1) 310 (xb (some ⟨p, 3, none⟩)) "Less").run prog w = .ok (327, gv) w := tL F w h "Less" _ (by kernel_rfl)
theorem oh (F : Nat) {p : Nat} {gv : Value} (w : World) (h : w.cell? ⟨p, 3, none⟩ = some gv) : (method (F + 1) 310 (xb (some ⟨p, 3, none⟩)) "Swap").run prog w = .ok (328, gv) w := tL F w h "Swap" _ (by kernel_rfl)
def fI (p:Nat) (v0 v1 v2 gv:Value) (g g':zN) (w w':World):Prop:=Gh w' p v0 v1 v2 gv g'/\g'.Perm g/\Gs p gv gv w w'
theorem fI.below {g':zN} (h:fI p v0 v1 v2 gv g g' w w1) (d:zB w1 w2):fI p v0 v1 v2 gv g g' w w2:=by obtain ⟨a,b,c⟩:=h;exact ⟨a.below d,b,c.fr.trans (Fr.ax (F:=λ_=>False) d) (λ_ _ e=>e.elim),c.own⟩
theorem fI.swap {g':zN} (h:fI p v0 v1 v2 gv g g' w w1) (i j:Nat) (hi:i<g'.length) (l:j<g'.length) (f:Ints w2 gv (Hp.swap g' i j)) (d:Fr (λk=>gv.ownBlock= some k) w1 w2):fI p v0 v1 v2 gv g (Hp.swap g' i j) w w2:=by obtain ⟨a,b,c⟩:=h;exact ⟨⟨(d.block p a.lt a.ne).trans a.head,f⟩,(Hp.swap_perm g' i j hi l).trans b,c.fr.trans d (λ_ _ e=> .inr e),c.own⟩
theorem Iu (h:Gh w p v0 v1 v2 gv g) (j:Nat) (hu:Hp.Up g j) (M:g.length<=1048577): zF 300 #[.iface 310 (xb (some ⟨p,3,none⟩)),zI j] w λe w'=>e= nf (CE #[])/\∃g',fI p v0 v1 v2 gv g g' w w'/\Hp.Heap g':=by
 have H:=hT h;have A:=hT hu;clear h hu;go_enter func300,ntmps300;go_wp2;go_loopw [1] (λv wr=>∃(k:Nat) (g':zN),v= zI k/\Hid (Hp.Up g' k)/\Hid (fI p v0 v1 v2 gv g g' w wr)/\k<=1048576) (λv _=>(wo v).toNat);case atStart=>exact ⟨j,g,rfl,A,hT ⟨H.out,V6 _,Gs.refl _ _ _⟩,by have:=A.out.1;omega⟩
 case round=>
  obtain ⟨k,g',rfl,b,i,hk⟩:=hrel;have d:=b.out.1;have f:=i.out.2.1.length_eq;by_cases I:k= 0;· subst I;clear d f;go_wp2;go_end0;exact ⟨rfl,g',i.out,Hp.wq b.out (.inl rfl)⟩
  ·obtain ⟨q,l⟩:=eX1 (Hp.par k);have G:q<k:=by rw [l];unfold Hp.par;omega
   have D:lg.wrap ((k:Int) - 1)= (k:Int) - 1:=by rw [rr _ (by omega)]
   have C:((k:Int) - 1).tdiv 2= (q:Int):=by rw [Int.tdiv_eq_ediv_of_nonneg (by omega),l];unfold Hp.par;omega
   have B:((k:Int) - 1) / 2= (q:Int):=by rw [l];unfold Hp.par;omega
   have d1:((q:Int) == (k:Int))= false:=by simp;omega
   obtain ⟨gh,hp,E⟩:=i.out;obtain ⟨a,c,t⟩:=fZ gh.row;subst t;have hm:=λF=>mE F wr gh.cell;have LE:=hT (jG gh.row k q d (by omega) (by omega));have L:=hT gh;have u:=hT l;have y:=hT f;clear gh hp E l f;cases hd:decide (Hp.at_ g' k<Hp.at_ g' q) with
    | false =>
    rw [hd]at LE;go_wp2_with (go_at_call 327;refine zg LE.out λw' hb=>?_);go_end0;have o:Hp.at_ g' q<=Hp.at_ g' k:=by have:=of_decide_eq_false hd;omega
    rw [u.out]at o;exact ⟨rfl,g',i.out.below hb,Hp.wq b.out (.inr o)⟩
    | true =>
    rw [hd]at LE;have J:=hT (of_decide_eq_true hd);clear hd;go_wp2_with (first
     | (go_at_call 327;refine zg LE.out λw' hb=>?_;have r:=hT (L.out.below hb);have s:=λF=>oh F w' r.out.cell;have SW:=hT (oa r.out.row q k (by omega) d (by have:=y.out;omega));have K:=hT hb;clear hb hm)
     | (go_at_call 328;refine SW.out.mono ?_;rintro e w2 ⟨rfl,m,n⟩;have x:=hT m;have z:=hT n;clear m n s));go_roundw;case rel=>
     refine ⟨q,Hp.swap g' q k,rfl,?_,?_,by omega⟩;· have:=Hp.DZ b.out (by omega) (by rw [<-u.out];exact J.out);rw [<-u.out]at this;exact hT this
     ·exact hT ((i.out.below K.out).swap q k (by omega) d x.out z.out)
    case measure=>simp [wo];omega
theorem Iv (h:Gh w p v0 v1 v2 gv g) (n:Nat) (hu:Hp.Down g 0 n) (hg:g.length≤1048577):
    zF 301 #[.iface 310 (xb (some ⟨p,3,none⟩)),zI 0,zI n] w fun e w'=>∃v,e= nf (.bool v)∧∃g',fI p v0 v1 v2 gv g g' w w'∧Hp.kT g' n∧∀k,n≤k→Hp.at_ g' k= Hp.at_ g k:=by
  have H:=hT h
  have HU:=hT hu
  have hn:n≤1048577:=by have:=hu.1;omega
  clear h hu
  go_enter func301,ntmps301
  go_wp2
  go_loopw [7] (fun v wr=>∃(k:Nat) (g':zN),v= zI k∧Hid (Hp.Down g' k n)∧Hid (fI p v0 v1 v2 gv g g' w wr)∧Hid (∀i,n≤i→Hp.at_ g' i= Hp.at_ g i)∧(k= 0∨k<n)) (fun v _=>n - (wo v).toNat)
  case atStart=>exact ⟨0,g,rfl,HU,hT ⟨H.out,V6 _,Gs.refl _ _ _⟩,hT fun _ _=>rfl, .inl rfl⟩
  case round=>
    obtain ⟨k,g',rfl,I,L,K,hk⟩:=hrel
    have R:=L.out.2.1.length_eq
    have Y:=I.out.1
    have Z:k≤1048577:=by omega
    have V:lg.wrap (2* (k:Int))= 2* (k:Int):=by rw [rr _ (by omega)]
    have Q:lg.wrap (2* (k:Int) +1)= ((2*k+1:Nat):Int):=by rw [rr _ (by omega)];try omega
    obtain ⟨j,J⟩:=eX1 (2*k+1)
    rw [←J]at Q
    have P:lg.wrap ((j:Int) +1)= ((j+1:Nat):Int):=by rw [rr _ (by omega)];try omega
    obtain ⟨f,r⟩:=eX1 (j+1)
    rw [←r]at P
    have d0:decide ((j:Int) <0)= false:=by simp;try omega
    obtain ⟨gh,hp,W⟩:=L.out
    obtain ⟨a,c,T⟩:=fZ gh.row
    subst T
    have G:=hT gh
    have bl:g'.length≤1048577:=by omega
    clear gh hp W R
    by_cases ab:j<n
    · have d2:decide (n≤j)= false:=by simp;omega
      have hm:=fun F=>mE F wr G.out.cell
      have b1:j<g'.length:=by omega
      have b2:k<g'.length:=by omega
      have fin:∀(i:Nat) (w2:World),Hp.lZ g' k i n→zB wr w2→¬Hp.at_ g' i<Hp.at_ g' k→∃g'_1,fI p v0 v1 v2 (.slice a g'.length c) g g'_1 w w2∧Hp.kT g'_1 n∧∀i,n≤i→Hp.at_ g'_1 i= Hp.at_ g i:=
        fun i w2 N S hd=>⟨g',L.out.below S,Hp.D7 I.out N (by omega),K.out⟩
      have step:∀(i:Nat) (w1 w2:World),Hp.lZ g' k i n→zB wr w1→Hp.at_ g' i<Hp.at_ g' k→Ints w2 (.slice a g'.length c) (Hp.swap g' k i)→Fr (fun x=>(AF a g'.length c).ownBlock= some x) w1 w2→
          Hid (Hp.Down (Hp.swap g' k i) i n)∧Hid (fI p v0 v1 v2 (.slice a g'.length c) g (Hp.swap g' k i) w w2)∧Hid (∀x,n≤x→Hp.at_ (Hp.swap g' k i) x= Hp.at_ g x)∧(i= 0∨i<n):=by
        intro i w1 w2 N S hd X hf
        have hi:=N.1
        refine ⟨hT (Hp.D8 I.out N hd),hT ((L.out.below S).swap k i b2 (by omega) X hf),hT fun x hx=>?_, .inr hi⟩
        rw [Hp.ib _ _ _ _ b2 (by omega),if_neg (by omega),if_neg (by omega)]
        exact K.out x hx
      have A:=hT fin
      have m:=hT step
      clear fin step
      -- which child
      by_cases l:f<n∧Hp.at_ g' f<Hp.at_ g' j
      · have U:decide (f<n):=by simp;omega
        have b3:f<g'.length:=by omega
        have b4:n - f<n - k:=by omega
        have D:=hT (jG G.out.row f j b3 b1 (by omega))
        rw [decide_eq_true l.2]at D
        have y:=hT (by have:=Hp.D6 (g:=g') (i:=k) (n:=n) (by omega) (by rw [show 2*k+2= f by omega,show 2*k+1= j by omega];exact l.2);rwa [show 2*k+2= f by omega]at this)
        cases hd:decide (Hp.at_ g' f<Hp.at_ g' k) with
        | false =>
          have E:=hT (of_decide_eq_false hd)
          have z:=hT hd
          clear hd l J r m
          go_wp2_with (first
            | (go_at_call 327;refine zg D.out fun w1 hb1=>?_;have b:=hT (G.out.below hb1);have C:=fun F=>mE F w1 b.out.cell;have o:=hT (jG b.out.row f k b3 b2 (by omega));rw [z.out]at o;have q:=hT hb1;clear D hm hb1)
            | (go_at_call 327;refine zg o.out fun w2 hb2=>?_;have d:=hT hb2;clear hb2))
          go_ret
          exact ⟨_,rfl,A.out _ _ y.out (q.out.trans (d.out.mono q.out.size)) E.out⟩
        | true =>
          have E:=hT (of_decide_eq_true hd)
          have z:=hT hd
          clear hd l J r A
          go_wp2_with (first
            | (go_at_call 327;refine zg D.out fun w1 hb1=>?_;have b:=hT (G.out.below hb1);have C:=fun F=>mE F w1 b.out.cell;have o:=hT (jG b.out.row f k b3 b2 (by omega));rw [z.out]at o;have q:=hT hb1;clear D hm hb1)
            | (go_at_call 327;refine zg o.out fun w2 hb2=>?_;have u:=hT (b.out.below hb2);have B:=fun F=>oh F w2 u.out.cell;have SW:=hT (oa u.out.row k f b2 b3 (by omega));have d:=zT q hb2;clear hb2 C o)
            | (go_at_call 328;refine SW.out.mono ?_;rintro e w3 ⟨rfl,s,t⟩;have ST:=hT (m.out _ _ _ y.out d.out E.out s t);clear s t B))
          go_roundw
          case rel=>exact ⟨f,Hp.swap g' k f,rfl,ST.out⟩
          case measure=>simp [wo];omega
      · have y:=hT (by
          have:=Hp.D5 (g:=g') (i:=k) (n:=n) (by omega) (by
            rcases Nat.lt_or_ge f n with O|O
            · right
              rw [show 2*k+2= f by omega,show 2*k+1= j by omega]
              have:=fun c=>l ⟨O,c⟩
              omega
            · left;omega)
          rwa [show 2*k+1= j by omega]at this)
        have b4:n - j<n - k:=by omega
        by_cases O:f<n
        · have U:decide (f<n):=by simp;omega
          have b3:f<g'.length:=by omega
          have D:=hT (jG G.out.row f j b3 b1 (by omega))
          rw [decide_eq_false (fun c=>l ⟨O,c⟩)]at D
          cases hd:decide (Hp.at_ g' j<Hp.at_ g' k) with
          | false =>
            have E:=hT (of_decide_eq_false hd)
            have z:=hT hd
            clear hd l J r m
            go_wp2_with (first
              | (go_at_call 327;refine zg D.out fun w1 hb1=>?_;have b:=hT (G.out.below hb1);have C:=fun F=>mE F w1 b.out.cell;have o:=hT (jG b.out.row j k b1 b2 (by omega));rw [z.out]at o;have q:=hT hb1;clear D hm hb1)
              | (go_at_call 327;refine zg o.out fun w2 hb2=>?_;have d:=hT hb2;clear hb2))
            go_ret
            exact ⟨_,rfl,A.out _ _ y.out (q.out.trans (d.out.mono q.out.size)) E.out⟩
          | true =>
            have E:=hT (of_decide_eq_true hd)
            have z:=hT hd
            clear hd l J r A
            go_wp2_with (first
              | (go_at_call 327;refine zg D.out fun w1 hb1=>?_;have b:=hT (G.out.below hb1);have C:=fun F=>mE F w1 b.out.cell;have o:=hT (jG b.out.row j k b1 b2 (by omega));rw [z.out]at o;have q:=hT hb1;clear D hm hb1)
              | (go_at_call 327;refine zg o.out fun w2 hb2=>?_;have u:=hT (b.out.below hb2);have B:=fun F=>oh F w2 u.out.cell;have SW:=hT (oa u.out.row k j b2 b1 (by omega));have d:=zT q hb2;clear hb2 C o)
              | (go_at_call 328;refine SW.out.mono ?_;rintro e w3 ⟨rfl,s,t⟩;have ST:=hT (m.out _ _ _ y.out d.out E.out s t);clear s t B))
            go_roundw
            case rel=>exact ⟨j,Hp.swap g' k j,rfl,ST.out⟩
            case measure=>simp [wo];omega
        · have U:decide (f<n)= false:=by simp;omega
          cases hd:decide (Hp.at_ g' j<Hp.at_ g' k) with
          | false =>
            have E:=hT (of_decide_eq_false hd)
            have o:=hT (jG G.out.row j k b1 b2 (by omega))
            rw [hd]at o
            clear hd l J r m
            go_wp2_with (go_at_call 327;refine zg o.out fun w2 hb2=>?_;have d:=hT hb2;clear hb2)
            go_ret
            exact ⟨_,rfl,A.out _ _ y.out d.out E.out⟩
          | true =>
            have E:=hT (of_decide_eq_true hd)
            have o:=hT (jG G.out.row j k b1 b2 (by omega))
            rw [hd]at o
            clear hd l J r A
            go_wp2_with (first
              | (go_at_call 327;refine zg o.out fun w2 hb2=>?_;have u:=hT (G.out.below hb2);have B:=fun F=>oh F w2 u.out.cell;have SW:=hT (oa u.out.row k j b2 b1 (by omega));have d:=hT hb2;clear hb2 hm o)
              | (go_at_call 328;refine SW.out.mono ?_;rintro e w3 ⟨rfl,s,t⟩;have ST:=hT (m.out _ _ _ y.out d.out E.out s t);clear s t B))
            go_roundw
            case rel=>exact ⟨j,Hp.swap g' k j,rfl,ST.out⟩
            case measure=>simp [wo];omega
    · have d2:decide (n≤j):=by simp;omega
      have M:=hT (Hp.D4 I.out (by omega))
      clear J r
      go_wp2
      go_ret
      exact ⟨_,rfl,g',L.out,M.out,K.out⟩
theorem Iw (h:Gh w p v0 v1 v2 gv g) (x:Int) (l:Hp.Heap g) (s:g.length<=1048576): zF 276 #[.iface 310 (xb (some ⟨p,3,none⟩)), .iface 3 (zI x)] w λe w'=>e= nf (CE #[])/\∃g' gv',Gh w' p v0 v1 v2 gv' g'/\g'.Perm (g ++ [x])/\Hp.Heap g'/\Gs p gv gv' w w':=by
 have o:=hT (Io h x s);have hm:=Ir;have H:=hT h;have z:=hT l;obtain ⟨n,k⟩:=eX1 g.length;have q:n<=1048576:=by omega
 have A:lg.wrap (((n+1:Nat):Int) - 1)= (n:Int):=by rw [rr _ (by omega)];omega
 have m:=hT k;clear h l k;go_enter func276,ntmps276;go_wp2_with (first
  | (go_at_call 330;refine o.out.mono ?_;rintro e w1 ⟨rfl,t,h1,d⟩;have H1:=hT h1;have y:=hT d;obtain ⟨a,c,i⟩:=fZ h1.row;rw [DC,T3,<-m.out]at i;subst i;have r:=λF=>yj F w1 h1.cell;have u:=hT (Iu h1 n (by have:=Hp.DY z.out x;rw [<-m.out]at this;exact this) (by simp;omega));clear h1 d hm o)
  | (go_at_call 326;refine zh (ye _ _ _) ?_)
  | (go_at_call 300;refine u.out.mono ?_;rintro e w2 ⟨rfl,g2,b,f⟩;have v:=hT b;have j:=hT f;clear b f));go_end0;obtain ⟨a1,a2,a3⟩:=v.out;exact ⟨rfl,g2,_,a1,a2,j.out,y.out.trans a3 H.out.lt⟩
theorem Ix {c:Nat} (h:Gh w p v0 v1 v2 (.slice a g.length c) g) (b:g.length= n+1) (hi:Ints w1 (.slice a (n+1) c) (Hp.swap g 0 n)) (d:Fr (λk=>(AF a (n+1) c).ownBlock= some k) w w1): fI p v0 v1 v2 (.slice a (n+1) c) g (Hp.swap g 0 n) w w1:=by rw [b]at h;have e:fI p v0 v1 v2 (.slice a (n+1) c) g g w w:=⟨h,V6 _,Gs.refl _ _ _⟩;exact e.swap 0 n (by omega) (by omega) hi d
theorem Iy {g2:zN} (a:g.length= n+1) (h:Hp.at_ g2 n= Hp.at_ (Hp.swap g 0 n) n):Hp.at_ g2 n= Hp.at_ g 0:=by rw [h,Hp.ib _ _ _ _ (by omega) (by omega),if_pos rfl]
theorem Iz {g1 g2:zN} (a:g.length= n+1) (h1:fI p v0 v1 v2 gv g g1 w w1) (b:fI p v0 v1 v2 gv g1 g2 w1 w2):g2.length= n+1:=by rw [b.2.1.length_eq,h1.2.1.length_eq,a]
theorem IA (h:Gh w p v0 v1 v2 gv g) (n:Nat) (q:g.length= n+1) (y:Hp.Heap g) (I:n+1<=1048576): zF 282 #[.iface 310 (xb (some ⟨p,3,none⟩))] w λe w'=>e= nf (.iface 3 (zI (Hp.at_ g 0)))/\∃g' gv',Gh w' p v0 v1 v2 gv' g'/\(Hp.at_ g 0 :: g').Perm g/\Hp.Heap g'/\Gs p gv gv' w w':=by
 obtain ⟨a,c,rfl⟩:=fZ h.row;have hm:=λF=>yj F w h.cell;have i:=λF=>oh F w h.cell;have SW:=hT (oa h.row 0 n (by omega) (by omega) (by omega));have H:=hT h;have C:=hT y;have m:=hT q;rw [q]at hm i SW;rw [q];have G:lg.wrap (((n+1:Nat):Int) - 1)= (n:Int):=by rw [rr _ (by omega)];omega
 clear h y q;go_enter func282,ntmps282;go_wp2_with (first
  | (go_at_call 326;refine zh (ye _ _ _) ?_)
  | (go_at_call 328;refine SW.out.mono ?_;rintro e w1 ⟨rfl,j,l⟩;have s:=hT (Ix H.out m.out j l);clear j l hm i;have E:=hT (Iv s.out.1 n (Hp.D3 C.out n m.out) (by rw [Hp.lY,m.out];omega)))
  | (go_at_call 301;refine E.out.mono ?_;rintro e w2 ⟨v,rfl,g2,d,k,b⟩;have r:=hT d;have x:=hT k;have o:=hT (Iy m.out (b n (nm _)));have A:=Is;have t:=hT (Iz m.out s.out r.out);have PP:=hT (Iq r.out.1 n t.out (by rw [t.out];omega));rw [o.out]at PP;clear d k b)
  | (go_at_call 329;refine PP.out.mono ?_;rintro e w3 ⟨rfl,u,z,f⟩;have D:=hT z;have B:=hT f;clear z f));go_ret;refine ⟨rfl,g2.take n,u,D.out,?_,Hp.D_ x.out (by rw [t.out];omega),(s.out.2.2.trans r.out.2.2 H.out.lt).trans B.out H.out.lt⟩;have e:=Hp.D9 t.out;rw [o.out]at e;have hp:=r.out.2.1.trans s.out.2.1;rw [e]at hp;exact (List.perm_append_comm (l₁:= [Hp.at_ g 0]) (l₂:=g2.take n)).trans hp
open Go.RowKit ae Go.Maps
structure Raw (w:World) (o:Ob) (n:Nat) (c g:zN):Prop where
 head:w.heap[o.p]?= some (hV #[zI n, .map (some o.mb),o.cv,o.gv] 234 (0,0))
 chunks:Ints w o.cv c
 bF:Ints w o.gv g
 placeOf:iG w o.mb c
 apart:∀k,o.cv.ownBlock= some k->o.gv.ownBlock≠some k
variable{o:Ob}{c:zN}
theorem Tk.raw (h:Tk w o n c g):Raw w o n c g:=⟨h.head,h.chunks,h.bF,h.placeOf,h.apart⟩
theorem Raw.tk (h:Raw w o n c g) (hp:Pr n c g):Tk w o n c g:=⟨hp,h.head,h.chunks,h.bF,h.placeOf,h.apart⟩
theorem Raw.gh (h:Raw w o n c g):Gh w o.p (zI n) (.map (some o.mb)) o.cv o.gv g:=⟨h.head,h.bF⟩
theorem Raw.lt (h:Raw w o n c g) (k:Nat) (hk:o.fp k):k<w.heap.size:=by
 rcases hk with rfl|rfl|hk|hk;· exact lt_of_heap h.head
 ·exact h.placeOf.lt
 ·obtain ⟨cur,a⟩:=bV h.chunks k hk;exact lt_of_heap a
 ·obtain ⟨cur,a⟩:=bV h.bF k hk;exact lt_of_heap a
theorem Raw.oj (h:Raw w o n c g):o.mb≠o.p/\o.cv.ownBlock≠some o.p/\o.gv.ownBlock≠some o.p:=by
 refine ⟨λe=>?_,λe=>?_,λe=>?_⟩;· obtain ⟨D,⟨d,clock,b,_⟩,_⟩:=h.placeOf;rw [e,h.head]at b;cases b
 ·obtain ⟨cur,a⟩:=bV h.chunks _ e;rw [h.head]at a;injection a with a;injection a with _ a;cases a
 ·obtain ⟨cur,a⟩:=bV h.bF _ e;rw [h.head]at a;injection a with a;injection a with _ a;cases a
theorem Raw.tM (h:Raw w o n c g):o.cv.ownBlock≠some o.mb/\o.gv.ownBlock≠some o.mb:=by
 obtain ⟨D,⟨d,clock,b,_⟩,_⟩:=h.placeOf;refine ⟨λe=>?_,λe=>?_⟩;· obtain ⟨cur,a⟩:=bV h.chunks _ e;rw [b]at a;cases a
 ·obtain ⟨cur,a⟩:=bV h.bF _ e;rw [b]at a;cases a
theorem Raw.below (h:Raw w o n c g) (b:zB w w'):Raw w' o n c g:=by have a:∀k,o.fp k->w'.heap[k]?= w.heap[k]?:=λk hk=>b.block k (h.lt k hk);exact ⟨(a _ (.inl rfl)).trans h.head,bc h.chunks λk hk=>a k (.inr (.inr (.inl hk))),bc h.bF λk hk=>a k (.inr (.inr (.inr hk))),h.placeOf.same (a _ (.inr (.inl rfl))),h.apart⟩
theorem Raw.reads (h:Raw w o n c g): w.cell? (zD o.p 0)= some (zI n)/\w.cell? (zD o.p 1)= some (.map (some o.mb))/\w.cell? (zD o.p 2)= some o.cv/\w.cell? (zD o.p 3)= some o.gv/\∀j,w.frozen? (zD o.p j)= false:=by refine ⟨?_,?_,?_,?_,λj=>frozen_of_row _ _ _ _ _ h.head⟩<;>(rw [cell_of_row _ _ _ _ _ _ h.head];rfl)
variable{gv':Value}
theorem Raw.gs {g':zN} (h:Raw w o n c g) (b:Gh w' o.p (zI n) (.map (some o.mb)) o.cv gv' g') (a:Gs o.p o.gv gv' w w'): Raw w' {o with gv:=gv'} n c g'/\Step o {o with gv:=gv'} w w':=by
 obtain ⟨n1,d,j⟩:=h.oj;obtain ⟨l,f⟩:=h.tM;have i:∀k,Gf o.p o.gv k->o.fp k:=λk hk=>hk.elim .inl λe=> .inr (.inr (.inr e));refine ⟨⟨b.head,bc h.chunks λk hk=>a.fr.block k (h.lt k (.inr (.inr (.inl hk)))) ?_,b.row,h.placeOf.same (a.fr.block _ h.placeOf.lt ?_),λk hk hk'=>?_⟩,a.fr.mono λk _ e=>i k e,λk hk=>?_,rfl⟩;·
  rintro (e|e);· exact d (by rw [<-e];exact hk)
  ·exact h.apart k hk e
 ·rintro (e|e);· exact n1 e
  ·exact f e
 ·rcases a.own k hk' with e|e;· exact h.apart k hk e
  ·have:=h.lt k (.inr (.inr (.inl hk)));omega
 ·rcases hk with e|e|e|e;· exact .inl (.inl e)
  ·exact .inl (.inr (.inl e))
  ·exact .inl (.inr (.inr (.inl e)))
  ·exact (a.own k e).imp (λe=> .inr (.inr (.inr e))) id
variable{ops:Array Oper}{rest:List Oper}{Q:Exit→Act→World→Prop}
theorem yk {o:Oper} {a:Act} (i:o.guard= none) (s x:Operand) (t:TypeId) (q:prog.underlying t= some (.slice 3)) (A:o.op= .call {callee:= .builtin .append,args:=#[s,x],argTypes:=#[t,t]}) (v:Value) (n:Nat) (l:zN) (z:a.eval s= v) (B:n= l.length) (D:n<=1099511627776) (c:w.ownsRow 0 3 1 v n (ag l)) (b:Nat) (y:Int) (p:a.eval x= (zS b 1 1)) (C:w.cell? (zD b 0)= some (zI y)) (h:∀b' cap w',jf w v l y b' cap w'->wpList prog ops Q rest (a.put o.dst (zS b' (n+1) cap)) w'):wpList prog ops Q (o :: rest) a w:=by
 subst B;obtain ⟨m,hi,g,f,d⟩:=info_parts jD;refine nZ i s x t A 3 m _ 1 8 q hi g f d rfl (by decide) v l.length (ag l) z c ⟨b,0,none⟩ 1 1 [zI y] p rfl (λj u hj=>?_) (tK y) (by unfold maxLen;omega) (by omega) λv' w' h1 h2 h3=>?_;· cases j with
  | zero=>injection hj with hj;subst hj;rw [show (⟨b,0,none⟩:Addr).add 0= ⟨b,0,none⟩ from by unfold Addr.add;split<;>simp_all];exact C
  | succ j=>simp at hj
 ·rcases h1.2 with ⟨_,H⟩|⟨b',cap,cur,rfl,G,E,r⟩;· omega
  ·refine h b' cap w' ⟨by rw [ag,R0];exact h1,Fr.jz (F:=λk=>v.ownBlock= some k) h2 λk e=>e,?_⟩;rcases h3 with e|e;· exact .inl e.symm
   ·have e:b'= w.heap.size:=by injection e
    right;omega
variable{y:Int}
theorem Raw.added {cap:Nat} (h:Raw w o n c g) (d:jf w o.cv c y b cap w2):
    let v:=AF (some ⟨b,0,none⟩) (c.length+1) cap
    (w2.setCell ⟨o.p,2,none⟩ v).heap[o.p]?= some (hV #[zI n, .map (some o.mb),v,o.gv] 234 (0,0))∧Ints (w2.setCell ⟨o.p,2,none⟩ v) v (c ++ [y])∧Ints (w2.setCell ⟨o.p,2,none⟩ v) o.gv g∧iG (w2.setCell ⟨o.p,2,none⟩ v) o.mb c∧
    (∀k,v.ownBlock= some k→o.gv.ownBlock≠some k)∧Step o {o with cv:=v} w (w2.setCell ⟨o.p,2,none⟩ v)∧b≠o.p∧b≠o.mb:=by
  intro v
  obtain ⟨n1,m,r⟩:=h.oj
  obtain ⟨q,s⟩:=h.tM
  have hp:=(d.fr.block o.p (h.lt _ (.inl rfl)) m).trans h.head
  have i:b≠o.p:=fun e=>by
    rcases d.own with h1|h1
    · exact m (by rw [h1,e])
    · have:=h.lt o.p (.inl rfl);omega
  have j:b≠o.mb:=fun e=>by
    rcases d.own with h1|h1
    · exact q (by rw [h1,e])
    · have:=h.lt o.mb (.inr (.inl rfl));omega
  have a:∀k,k≠o.p→(w2.setCell ⟨o.p,2,none⟩ v).heap[k]?= w2.heap[k]?:=fun k hk=>L2 _ _ _ _ hk
  have l:∀k,v.ownBlock= some k→o.gv.ownBlock≠some k:=by
    intro k hk f
    injection hk with hk
    rcases d.own with e|e
    · exact h.apart k (by rw [e,←hk]) f
    · have:=h.lt k (.inr (.inr (.inr f)));have:b= k:=hk;omega
  refine ⟨?_,?_,?_,?_,l,⟨?_,?_,rfl⟩,i,j⟩
  · rw [heap_setCell_same _ _ _ _ _ _ hp];rfl
  · exact bc (yh rfl d.row) fun k hk=>a k (by intro e;injection hk with hk;exact i (hk.trans e))
  · refine bc (bc h.bF fun k hk=>d.fr.block k (h.lt k (.inr (.inr (.inr hk)))) (fun e=>h.apart k e hk)) fun k hk=>a k (fun e=>r (by rw [←e];exact hk))
  · exact (h.placeOf.same (d.fr.block o.mb h.placeOf.lt q)).same (a _ n1)
  · exact Fr.setCell (F:=o.fp) (d.fr.mono fun k _ e=> .inr (.inr (.inl e))) _ (.inl rfl) _
  · rintro k (e|e|e|e)
    · exact .inl (.inl e)
    · exact .inl (.inr (.inl e))
    · injection e with e
      have e:b= k:=e
      subst e
      exact d.own.imp (fun e=> .inr (.inr (.inl e))) id
    · exact .inl (.inr (.inr (.inr e)))
variable{D:DataW Unit}
theorem fH.put {c':zN} (h:fH D c) {k:Int} {i:Nat} (l:0<=k) (g:c'[i]?= some k) (hu:∀(j:Nat) (x:Int),c'[j]?= some x->0<=x->x≠k->c[j]?= some x) (f:∀x:Int,0<=x->x≠k->x∈c->x∈c') (a:∀j:Nat,c'[j]?= some k->j= i): fH (D.put (.int lg k) (.lit (.int lg i))) c':=by
 refine ⟨h.1.put _ _,λx=>?_,λj x b hx z=>?_⟩;·
  by_cases e:x= k;· subst e;rw [has_put_same h.1 (k:= .int lg x) trivial];exact ⟨λ_=>⟨l,P1 g⟩,λ_=>rfl⟩
  ·rw [has_put_other (by intro c;injection c with _ c;exact e c),h.2.1 x];constructor;· rintro ⟨h1,d⟩;exact ⟨h1,f x h1 e d⟩
   ·rintro ⟨h1,d⟩;obtain ⟨j,b⟩:=TF d;exact ⟨h1,P1 (hu j x b h1 e)⟩
 ·by_cases e:x= k;· subst e;rw [atKey_put_same h.1 (k:= .int lg x) trivial,a j b]
  ·rw [atKey_put_other (by intro c;injection c with _ c;exact e c)];exact h.2.2 j x (hu j x b hx e) hx z
open Go.RowKit ae Go.Maps
theorem fH.more (h:fH D c):fH D (c ++ [-1]):=by
 refine ⟨h.1,λk=>?_,λi k hi h0 z=>?_⟩;·
  rw [h.2.1 k,RR,H5];constructor;· exact λ⟨a,b⟩=>⟨a, .inl b⟩
  ·rintro ⟨a,b|b⟩;· exact ⟨a,b⟩
   ·omega
 ·refine h.2.2 i k ?_ h0 z;by_cases d:i<c.length;· rwa [List.getElem?_append_left d]at hi
  ·rw [List.getElem?_append_right (by omega)]at hi;cases e:i - c.length with
   | zero=>rw [e]at hi;simp at hi;omega
   | succ j=>rw [e]at hi;simp at hi
theorem iG.more (h:iG w b c):iG w b (c ++ [-1]):=by obtain ⟨D,h1,a⟩:=h;exact ⟨D,h1,a.more⟩
theorem Raw.more {cap:Nat} (h:Raw w o n c g) (a:jf w o.cv c (-1) b cap w2): Raw (w2.setCell ⟨o.p,2,none⟩ (zS b (c.length+1) cap)) {o with cv:= AF (some ⟨b,0,none⟩) (c.length+1) cap} n (c ++ [-1]) g/\ Step o {o with cv:= AF (some ⟨b,0,none⟩) (c.length+1) cap} w (w2.setCell ⟨o.p,2,none⟩ (zS b (c.length+1) cap)):=by obtain ⟨h1,j,i,f,e,d,_,_⟩:=h.added a;exact ⟨⟨h1,j,i,f.more,e⟩,d⟩
theorem IB (h:w.mapTurned w' b):Fr (λk=>k= b) w w':=Fr.jz h.grown λk e=>by injection e with e;exact e.symm
theorem Raw.yl (h:Raw w o n c g) {i:Nat} {b cap:Nat} (u:o.cv= (zS b c.length cap)) (hi:c[i]?= some (-1)) {k:Int} (M:0<=k) (hk:k∉c) (v:(used c).Nodup): w.cell? (zD b i)= some (.int lg (-1))/\w.frozen? (zD b i)= false/\(w.setCell ⟨b,i,none⟩ (.int lg k)).cell? (zD o.p 1)= some (.map (some o.mb))/\ ∃ D, (w.setCell ⟨b, i, none⟩ (.int lg k)).ownsMap prog 3 (plainElem (H := Unit) prog 3) o.mb (RH D) D /\ RH D <= c.length /\ ∀w3,w3.ownsMap prog 3 (plainElem (H:=Unit) prog 3) o.mb (RH D+1) (D.put (.int lg k) (.lit (.int lg i)))->(w.setCell ⟨b,i,none⟩ (.int lg k)).mapTurned w3 o.mb->Raw w3 o n (c.set i k) g/\Step o o w w3:=by
 obtain ⟨n1,I,Q⟩:=h.oj;obtain ⟨K,J⟩:=h.tM;have t:o.cv.ownBlock= some b:=by rw [u];rfl
 have s:b≠o.p:=λe=>I (by rw [t,e]);have y:b≠o.mb:=λe=>K (by rw [t,e]);have m:=(C2.1 hi).1;have q:Ints w (zS b c.length cap) c:=by rw [<-u];exact h.chunks
 obtain ⟨b',e,_,C,L⟩:=fi q i m;cases e;have A:Hp.at_ c i= -1:=by have:=Hp.iX c i m;rw [hi]at this;injection this with this;exact this.symm
 rw [A]at C;obtain ⟨G,f1⟩:=ints_set q i k;obtain ⟨D,E,hm⟩:=h.placeOf;have l:∀x,x≠b->(w.setCell ⟨b,i,none⟩ (.int lg k)).heap[x]?= w.heap[x]?:=λx d=>L2 _ _ _ _ d;have B:=iF E (l o.mb (λe=>y e.symm));refine ⟨C,L,?_,D,B,?_,λw3 ho3 ht3=>?_⟩;· rw [TZ (w:=w) (a:=(zD o.p 1)) (l o.p (λe=>s e.symm))];exact h.reads.2.1
 ·rw [(sZ E hm v).2];exact mf _
 ·have N:=IB ht3;have r:∀x,x≠o.mb->w3.heap[x]?= (w.setCell ⟨b,i,none⟩ (.int lg k)).heap[x]?:=by intro x d;obtain ⟨R,S,O,P,z,rfl⟩:=ht3;exact ChangeMaps.heap_setBlock_other z _ d
  refine ⟨⟨?_,?_,?_,⟨_,Gb ho3,?_⟩,h.apart⟩,?_,λx d=> .inl d,rfl⟩;· rw [r _ (λe=>n1 e.symm),l _ (λe=>s e.symm)];exact h.head
  ·rw [u];have F:Ints (w.setCell ⟨b,i,none⟩ (.int lg k)) (zS b c.length cap) (c.set i k):=by show Tt _ _ _ _ _ _ _;simpa using G
   exact bc F λx d=>r x (by injection d with d;have d:b= x:=d;omega)
  ·exact bc h.bF λx d=>(r x (λe=>J (by rw [<-e];exact d))).trans (l x (λe=>h.apart b t (by rw [<-e];exact d)))
  ·refine hm.put M (by rw [P4,if_pos rfl,if_pos m]) (λj x f d hne=>?_) (λx d hne hxc=>?_) (λj f=>?_);·
    rw [P4]at f;by_cases e:i= j;· rw [if_pos e,if_pos m]at f;injection f with f;exact absurd f.symm hne
    ·rwa [if_neg e]at f
   ·obtain ⟨j,f⟩:=TF hxc;refine P1 (i:=j) ?_;rw [P4,if_neg (λe=>by rw [<-e,hi]at f;injection f with f;omega)];exact f
   ·rw [P4]at f;by_cases e:i= j;· exact e.symm
    ·rw [if_neg e]at f;exact absurd (P1 f) hk
  ·exact ((f1.mono λx _ e=>(by rw [e];exact .inr (.inr (.inl t)):o.fp x)).trans N (λx _ e=>(by rw [e];exact .inr (.inl rfl))))
theorem ym (a:Int) (h:(PO lg a).wf):plainElem (H:=Unit) prog 3 (.int lg a)= some (.lit (.int lg a), []):=plainElem_int underlying3 h
theorem yn (i:Nat) (h:i<=4611686018427387904):(PO lg i).wf= true:=by simp [Lit.wf,V7,V8,V9,V_];omega
theorem IC (h:Raw w o n c g) (i:Nat) (k:Int) (hi:c[i]?= some (-1)) (B:0<=k) (hk:k∉c) (f:(PO lg k).wf) (q:(used c).Nodup) (r:c.length<=1048576): zF 248 #[zP o.p, .int lg i, .int lg k] w λe w'=>e= nf (CE #[])/\Raw w' o n (c.set i k) g/\Step o o w w':=by
 have u:=(C2.1 hi).1;obtain ⟨a,cap,t⟩:=fZ h.chunks;obtain ⟨b,rfl⟩:=tH (a:=a) (c:=cap) (l:=c) (by rw [<-t];exact h.chunks) (by omega);obtain ⟨G,F,hm,D,z,hle,d⟩:=h.yl t hi B hk q;obtain ⟨_,h1,A,_,_⟩:=h.reads;rw [t]at A;have E:=hT z;have C:=hT d;have s:=hT (n_ k f);have v:=hT (ym (i:Int) (yn i (by omega)));obtain ⟨L,y⟩:=eX1 c.length;rw [<-y]at A u r hle;have d1:((i:Int) == (L:Int))= false:=by simp;omega
 clear h t hi hk f q z d y;go_enter func248,ntmps248;go_wp2_with (at_mapUpdate;refine wpList_mapUpdate_in _ rfl _ _ _ 80 rfl 3 3 ik underlying80 _ o.mb (RH D) D rfl E.out (by unfold maxLen;omega) _ _ (.int lg k) rfl rfl s.out _ _ v.out ?_;intro w3 m j;have x:=hT (C.out w3 m j);clear m j);go_end0;exact ⟨rfl,x.out⟩
theorem yo (h:Raw w o n c g) (k:Int) (U:0≤k) (hk:k∉c) (s:(PO lg k).wf) (u:(used c).Nodup) (v:c.length≤1048576):
    zF 248 #[zP o.p, .int lg c.length, .int lg k] w fun e w'=>e= nf (CE #[])∧∃o',Raw w' o' n (c ++ [k]) g∧Step o o' w w':=by
  obtain ⟨a,cap,t⟩:=fZ h.chunks
  obtain ⟨_,h1,O,_,J⟩:=h.reads
  rw [t]at O
  have A:=hT (n_ k s)
  have B:=hT (ym (c.length:Int) (yn c.length (by omega)))
  obtain ⟨L,j⟩:=eX1 c.length
  have H:=hT h
  have q:zB w (w.alloc (hV #[.int lg (-1)] 3)):=zA
  have E:Hid ((w.alloc (hV #[.int lg (-1)] 3)).ownsRow 0 3 1 (.slice a L cap) L (ag c)):=hT (by
    have:=(h.below q).chunks
    rw [t,←j]at this
    show Tt _ _ _ _ _ _ _
    rw [j]at this⊢
    exact this)
  have I:=hT (h.below q)
  have M:=hT q
  have fin:∀b' d w2,jf (w.alloc (hV #[.int lg (-1)] 3)) (.slice a L cap) c (-1) b' d w2→
      let V:=AF (some ⟨b',0,none⟩) (L+1) d
      let r:=w2.setCell ⟨o.p,2,none⟩ V
      w2.cell? (zD o.p 2)= some (.slice a L cap)∧w2.frozen? (zD o.p 2)= false∧r.cell? (zD o.p 2)= some V∧r.cell? (zD b' L)= some (.int lg (-1))∧r.frozen? (zD b' L)= false∧(r.setCell ⟨b',L,none⟩ (.int lg k)).cell? (zD o.p 1)= some (.map (some o.mb))∧
      ∃ D, (r.setCell ⟨b', L, none⟩ (.int lg k)).ownsMap prog 3 (plainElem (H := Unit) prog 3) o.mb (RH D) D ∧ RH D < maxLen ∧
        Hid (∀w3,w3.ownsMap prog 3 (plainElem (H:=Unit) prog 3) o.mb (RH D+1) (D.put (.int lg k) (.lit (.int lg L)))→(r.setCell ⟨b',L,none⟩ (.int lg k)).mapTurned w3 o.mb→∃o',Raw w3 o' n (c ++ [k]) g∧Step o o' w w3):=by
    intro b' d w2 y V r
    rw [j]at y
    have x:jf (w.alloc (hV #[.int lg (-1)] 3)) o.cv c (-1) b' d w2:=by rw [t];exact y
    obtain ⟨Q,X⟩:=I.out.more x
    have N:=(x.fr.block o.p (I.out.lt _ (.inl rfl)) I.out.oj.2.1).trans I.out.head
    have hu:used (c ++ [-1])= used c:=by simp [used]
    obtain ⟨T,S,hm,D,G,hle,f⟩:=Q.yl (i:=c.length) (b:=b') (cap:=d) (by simp) (by simp) U (by simp [hk];omega) (by rw [hu];exact u)
    have R:=Q.reads.2.2.1
    have z:V= AF (some ⟨b',0,none⟩) (c.length+1) d:=by show AF _ (L+1) _= _;rw [j]
    have K:r= w2.setCell ⟨o.p,2,none⟩ (zS b' (c.length+1) d):=by show w2.setCell _ V= _;rw [z]
    rw [K,z,j]
    refine ⟨by rw [cell_of_row _ _ _ _ _ _ N,t];rfl,frozen_of_row _ _ _ _ _ N,R,T,S,hm,D,G,by unfold maxLen;simp at hle;omega,hT fun w3 m l=>?_⟩
    obtain ⟨P,W⟩:=f w3 m l
    have C:(c ++ [-1]).set c.length k= c ++ [k]:=by rw [List.set_append_right _ _ (nm _)];simp
    rw [C]at P
    exact ⟨_,P,(Step.ax M.out).trans (X.trans W)⟩
  have F:=hT fin
  have Y:=hT j
  rw [←j]at v⊢
  rw [←j]at O
  rw [←j]at B
  clear h t hk s u j fin q J
  go_enter func248,ntmps248
  go_wp2_with (first
    | (at_builtin;refine yk rfl (.tmp 17) (.tmp 18) 59 underlying59 rfl (.slice a L cap) L c rfl Y.out (by omega) E.out w.heap.size (-1) rfl (by simp) ?_;intro b' d w2 y;obtain ⟨q1,q2,q3,q4,q5,q6,D,G,hle,f⟩:=F.out b' d w2 y;have Z:=hT G;clear G y F E)
    | (at_mapUpdate;refine wpList_mapUpdate_in _ rfl _ _ _ 80 rfl 3 3 ik underlying80 _ o.mb (RH D) D rfl Z.out hle _ _ (.int lg k) rfl rfl A.out _ _ B.out ?_;intro w3 m l;have F3:=hT (f.out w3 m l);clear m l))
  go_end0
  exact ⟨rfl,F3.out⟩
theorem IE (h:Raw w o n c []): zF 253 #[zP o.p] w (zQ (zI c.length) w):=by obtain ⟨_,_,g,b,_⟩:=h.reads;obtain ⟨a,cap,d⟩:=fZ h.chunks;obtain ⟨j,i,e⟩:=fZ h.bF;rw [d]at g;rw [e]at b;have b:w.cell? (zD o.p 3)= some (.slice j 0 i):=b;obtain ⟨L,f⟩:=eX1 c.length;rw [<-f]at g⊢;clear d e f h;go_enter func253,ntmps253;go_wp2;go_ret;exact ⟨rfl,rfl⟩
theorem IF (h:Raw w o n c g) (s:g≠ []) (r:Hp.Heap g) (y:g.length<=1048576): zF 253 #[zP o.p] w λe w'=>e= nf (zI (Hp.at_ g 0))/\∃o' g',Raw w' o' n c g'/\Step o o' w w'/\(Hp.at_ g 0 :: g').Perm g/\Hp.Heap g':=by
 obtain ⟨q,i⟩:∃q,g.length= q+1:=⟨g.length - 1,by have:=UO.2 s;omega⟩;have t:=hT (IA h.gh q i r (by omega));obtain ⟨_,_,_,z,_⟩:=h.reads;obtain ⟨C,B,f⟩:=fZ h.bF;rw [f,i]at z;have H:=hT h;have d1:((q:Int) +1 == 0)= false:=by simp;omega
 obtain ⟨x,m⟩:=eX1 (Hp.at_ g 0);rw [<-m]at t⊢;have v:=yi x;clear h s r y i f m;go_enter func253,ntmps253;go_wp2_with (go_at_call 282;refine t.out.mono ?_;rintro e w1 ⟨rfl,g1,A,h1,b,d,a⟩;have H1:=hT h1;have k:=hT b;have l:=hT d;have j:=hT a;clear h1 b d a);go_ret;obtain ⟨u,s1⟩:=H.out.gs H1.out j.out;exact ⟨rfl,_,g1,u,s1,k.out,l.out⟩
theorem Raw.grow (h:Raw w o n c g) {a:Option Addr} {L cap:Nat} (f:o.cv= .slice a L cap) (m:L= c.length) {b' cap':Nat} {w2:World} (l:jf (w.alloc (hV #[zI (-1)] 3)) (.slice a L cap) c (-1) b' cap' w2): w2.cell? (zD o.p 2)= some (.slice a L cap)/\w2.frozen? (zD o.p 2)= false/\ Raw (w2.setCell ⟨o.p,2,none⟩ (zS b' (L+1) cap')) {o with cv:= AF (some ⟨b',0,none⟩) (L+1) cap'} n (c ++ [-1]) g/\ Step o {o with cv:= AF (some ⟨b',0,none⟩) (L+1) cap'} w (w2.setCell ⟨o.p,2,none⟩ (zS b' (L+1) cap')):=by
 have b:zB w (w.alloc (hV #[zI (-1)] 3)):=zA;have e:=h.below b;have d:jf (w.alloc (hV #[zI (-1)] 3)) o.cv c (-1) b' cap' w2:=by rw [f];exact l
 obtain ⟨k,j⟩:=e.more d;have i:=(d.fr.block o.p (e.lt _ (.inl rfl)) e.oj.2.1).trans e.head;rw [<-m]at k j;exact ⟨by rw [cell_of_row _ _ _ _ _ _ i,f];rfl,frozen_of_row _ _ _ _ _ i,k,(Step.ax b).trans j⟩
theorem Raw.own (h:Raw w o n c g) {a:Option Addr} {L cap:Nat} (d:o.cv= .slice a L cap) (e:L= c.length):(w.alloc (hV #[zI (-1)] 3)).ownsRow 0 3 1 (.slice a L cap) L (ag c):=by have b:zB w (w.alloc (hV #[zI (-1)] 3)):=zA;have:=(h.below b).chunks;rw [d]at this;subst e;exact this
theorem Raw.told {g':zN} (h:Raw w o n (c ++ [-1]) g) (a:Pr n c g) (f:c.length<n) (e:Gh w' o.p (zI n) (.map (some o.mb)) o.cv gv' g') (b:Gs o.p o.gv gv' w w') (hp:g'.Perm (g ++ [(c.length:Int)])) (d:Hp.Heap g'): Tk w' {o with gv:=gv'} n (c ++ [-1]) g'/\Step o {o with gv:=gv'} w w':=by obtain ⟨r,s⟩:=h.gs e b;exact ⟨r.tk (a.more f hp d),s⟩
theorem IG (h:Tk w o n c g) (i:Nat) (hi:i<=n): zF 247 #[zP o.p,zI i] w λe w'=>e= nf (CE #[])/\∃g',ai o n (c ++ vw (i - c.length) (-1)) g' w w':=by
 have hn:=h.pr.aS;have hlen:=h.pr.len;obtain ⟨_,_,N,_,_⟩:=h.reads;obtain ⟨a,cap,J⟩:=fZ h.chunks;rw [J]at N;have H:=hT h;obtain ⟨L,z⟩:=eX1 c.length;rw [<-z]at N hlen;have HL:=hT z;rw [<-z];clear h z J;go_enter func247,ntmps247;go_wp2;go_loopw [4] (λv wr=>∃(k:Nat) (y:Ob) (g':zN),v= zI k/\Hid (Tk wr y n (c ++ vw (k - L) (-1)) g')/\Hid (Step o y w wr)/\L<=k/\(k<=i\/k= L)) (λv _=>i - (wo v).toNat);case atStart=>exact ⟨L,o,g,rfl,by rw [Nat.sub_self];simpa using H,hT (Step.refl _ _),nm _, .inr rfl⟩
 case round=>
  obtain ⟨k,y,g',rfl,j,A,V,hk⟩:=hrel;obtain ⟨D,d⟩:=eX1 (c ++ vw (k - L) (-1));rw [<-d]at j;have b:k= D.length:=by have:=HL.out;rw [d];simp;omega
  by_cases U:k<i;·
   obtain ⟨_,_,I,_,_⟩:=j.out.reads;obtain ⟨X,u,f⟩:=fZ j.out.chunks;rw [f,<-b]at I;rw [<-b]at f;have x:=hT (j.out.raw.own f b);have HV:=hT f;have m:=hT b;have HC:=hT d;have hp:=A.out.p;rw [hp]at I;have C:=j.out.pr.wI;rw [<-b]at C;have T:lg.wrap ((k:Int) +1)= ((k+1:Nat):Int):=by rw [rr _ (by omega)];rfl
   have HP:=hT hp;clear f b d hp;go_wp2_with (first
    | (at_builtin;refine yk rfl (.tmp 19) (.tmp 20) 59 underlying59 rfl (.slice X k u) k D rfl m.out (by omega) x.out wr.heap.size (-1) rfl (by simp) ?_;intro b2 O w2 K;obtain ⟨S,R,l,q⟩:=j.out.raw.grow HV.out m.out K;rw [HP.out]at S R l q;have Z:=hT l;have Y:=hT q;have PU:=hT (Iw l.gh (k:Int) j.out.pr.heap (by omega));clear K l q x)
    | (go_at_call 276;refine PU.out.mono ?_;rintro e w3 ⟨rfl,g3,W,M,s,t,r⟩;have H3:=hT M;have F:=hT s;have G:=hT t;have E:=hT r;clear M s t r));go_roundw;case rel=> obtain ⟨P,Q⟩:=Z.out.told j.out.pr (by have:=m.out;omega) H3.out E.out (by rw [<-m.out];exact F.out) G.out;refine ⟨k+1,_,g3,rfl,hT ?_,hT (A.out.trans (Y.out.trans Q)),by omega, .inl (by omega)⟩;rw [show c ++ vw (k+1 - L) (-1)= D ++ [-1]by rw [HC.out,show k+1 - L= (k - L) +1 by omega,VG,NR]];exact P
   case measure=>simp [wo];omega
  ·have B:k - L= i - L:=by omega
   rw [B]at d;clear b;go_wp2;go_end0;exact ⟨rfl,g',y,by rw [<-d];exact j.out,A.out⟩
variable{k:Int}
theorem IH (h:find (full n c) k= none) (h0:0<=k):k∉c:=λhc=>ic.1 h h0 ((ma h0).2 hc)
variable{m:zN}
theorem gT.refl (h:Tm w o m):gT o m w w:=⟨o,h,Step.refl _ _⟩
theorem gT.below (c:zB w w1) (h:gT o m w1 w2):gT o m w w2:=by obtain ⟨a,hd,b⟩:=h;exact ⟨a,hd,(Step.ax c).trans b⟩
theorem qi (h:Tm w o m) (k:Int) (hk:(PO lg k).wf): zF 218 #[zP o.p, .int lg k] w λe w'=>e= zV (.int lg (put m k).2.1) (.int lg (put m k).2.2)/\gT o (put m k).1 w w':=by
 have b:=hT (x_ k w);by_cases a:0<=k/\k<=2147483646;· rw [decide_eq_true a]at b;have FI:=hT (tG h k hk);have H:=hT h;cases hf:find m k with
  | some i => rw [hf]at FI;rw [wD a hf];clear a hf h;go_enter func218,ntmps218;go_wp2_with (first
  | (go_at_call 246;refine zh b.out ?_)
  | (go_at_call 164;refine zh FI.out ?_));go_ret2;exact ⟨rfl,gT.refl H.out⟩
  | none => rw [hf]at FI;have LE:=hT (yc h);cases hg:bn m with
  | none => have t:=pC.1 hg;rw [<-t,Nat.sub_self]at LE;rw [pw a hf hg];clear a hf h hg t;go_enter func218,ntmps218;go_wp2_with (first
  | (go_at_call 246;refine zh b.out ?_)
  | (go_at_call 164;refine zh FI.out ?_)
  | (go_at_call 141;refine zg LE.out λw' hb=>?_;have E:=hT hb;clear hb));go_ret2;exact ⟨rfl,gT.below E.out (gT.refl (H.out.below E.out))⟩
  | some i =>
  have K:m.length≠(used m).length:=λe=>by rw [pC.2 e]at hg;cases hg
  have hle:=mf m;obtain ⟨d,hd⟩:=eX1 (m.length - (used m).length);have af:0<d:=by omega
  rw [<-hd]at LE;have d1:((d:Int) == 0)= false:=by simp;omega
  rw [pt a hf hg];obtain ⟨n,c,g,f,rfl⟩:=h;have R:=hT f;have l:=IH hf a.1;have u:(used c).Nodup:=by have:=nx f.pr.ok;rwa [me]at this
  have ab:=f.pr.aS;have N:=f.pr.len;by_cases A:g= [];·
   subst A;have v:c.length<n:=by
    rcases Nat.lt_or_ge c.length n with h'|h';· exact h'
    ·have y:=wB hg;obtain ⟨⟨x,P,ad⟩,_⟩:=jw.1 hg;rw [nv f.pr.len]at y;rw [l_ (by omega)]at P;have hv:=f.pr.bU P;have T:x= -1:=by omega
     rw [T]at P;have:=(f.pr.mem (i:Int)).2 ⟨i,rfl,P⟩;simp at this
   have hi:=f.pr.Ec v;rw [hi]at hg;injection hg with hg;subst hg;rw [pB k v];have PR:=hT (f.pr.snoc v a.1 a.2 l);have Z:=hT l;have Y:=hT u;have FE:Hid (∀w1,zB w w1->Raw w1 o n c []):=hT λw1 hb=>(R.out.below hb).raw;obtain ⟨L,W⟩:=eX1 c.length;have HL:=hT W;have C:=a.1;have s:c.length<=1048576:=by omega
   have D:=hT s;rw [<-W];clear a hf hd K hle l u f W N v hi s;go_enter func218,ntmps218;go_wp2_with (first
    | (go_at_call 246;refine zh b.out ?_)
    | (go_at_call 164;refine zh FI.out ?_)
    | (go_at_call 141;refine zg LE.out λw1 hb=>?_;have E:=hT hb;clear hb;have R1:=hT (FE.out w1 E.out);have F1:=hT (IE R1.out);rw [<-HL.out]at F1;have ST:=hT (yo R1.out k C Z.out hk Y.out D.out);rw [<-HL.out]at ST)
    | (go_at_call 253;refine zh F1.out ?_)
    | (go_at_call 248;refine ST.out.mono ?_;rintro e w2 ⟨rfl,S,r,q⟩;have R2:=hT r;have X:=hT q;clear r q));go_ret2;exact ⟨rfl,S,⟨n,_,_,R2.out.tk PR.out,rfl⟩,(Step.ax E.out).trans X.out⟩
  ·obtain ⟨i',M,z⟩:=f.pr.Ea A;rw [hg]at z;injection z with z;subst z;have U:=f.pr.wI;have FE:Hid (∀w1,zB w w1->zF 253 #[zP o.p] w1 λe w'=>e= nf (.int lg i)/\∃F Q,F.p= o.p/\Step o F w w'/\c[i]?= some (-1)/\Raw w' F n c Q/\Pr n (c.set i k) Q):=hT λw1 hb=>by have:=IF (R.out.below hb).raw A R.out.pr.heap (by omega);rw [M]at this;refine this.mono ?_;rintro e w' ⟨rfl,F,Q,hr,hs,hp,hh⟩;obtain ⟨e1,e2⟩:=R.out.pr.fill hp hh a.1 a.2 l;exact ⟨rfl,F,Q,hs.p,(Step.ax hb).trans hs,e1,hr,e2⟩
   have y:i<c.length:=by obtain ⟨j,hj,V⟩:=(f.pr.mem _).1 (Hp.at_mem g 0 (UO.2 A));have:=(C2.1 V).1;omega
   rw [pz k y];have Z:=hT l;have Y:=hT u;have C:=a.1;have s:c.length<=1048576:=by omega
   have D:=hT s;clear a hf hd K hle l u f N y s M U hg;go_enter func218,ntmps218;go_wp2_with (first
    | (go_at_call 246;refine zh b.out ?_)
    | (go_at_call 164;refine zh FI.out ?_)
    | (go_at_call 141;refine zg LE.out λw1 hb=>?_;have E:=hT hb;clear hb)
    | (go_at_call 253;refine (FE.out _ E.out).mono ?_;rintro e w2 ⟨rfl,S,g2,J,q,O,r,B⟩;have X:=hT q;have P2:=hT B;have ST:=hT (IC r i k O C Z.out hk Y.out D.out);rw [J]at ST;clear q B O r J)
    | (go_at_call 248;refine ST.out.mono ?_;rintro e w3 ⟨rfl,I,G⟩;have R3:=hT I;have S3:=hT G;clear I G));go_ret2;exact ⟨rfl,S,⟨n,_,_,R3.out.tk P2.out,rfl⟩,X.out.trans S3.out⟩
 ·rw [decide_eq_false a]at b;rw [pq a];have H:=hT h;clear h a;go_enter func218,ntmps218;go_wp2_with (go_at_call 246;refine zh b.out ?_);go_ret2;exact ⟨rfl,gT.refl H.out⟩
open Go.RowKit ae Go.Maps
def iK (p:Int):Nat:=if 0<=p/\p<=1048576 then p.toNat else 0
def yp (n:Nat) (c g:zN) (B:Nat) (w:World) (e:Ending) (w':World):Prop:=(∃o,e= nf (zP o.p)/\Tk w' o n c g/\∀k,o.fp k->B<=k)/\Below B w w'
theorem yq (p:Int) (w:World):zF 205 #[zI p] w λe w'=>yp (iK p) [] [] w.heap.size w e w':=by
 have g:= @run_makeMap prog;have f:=hT (tF p w);have fin:∀n:Nat,n<=1048576->yp n [] [] w.heap.size w (nf (zP (w.heap.size+1))) ((w.alloc (.map #[] 0)).alloc (hV #[zI n, .map (some w.heap.size), AF none 0 0, AF none 0 0] 234)):=by
  intro n a;refine ⟨⟨⟨w.heap.size+1,w.heap.size, AF none 0 0, AF none 0 0⟩,rfl,⟨Pr.new n a,?_,Ts _ _ _ _,Ts _ _ _ _,⟨.map [],?_,fH.nil⟩,(λk hk=>by cases hk)⟩,?_⟩,?_⟩;· exact (by simp:w.heap.size+1= (w.alloc (.map #[] 0)).heap.size)▸heap_alloc_new (w.alloc (.map #[] 0)) _
  ·exact (World.ownsMap_made w prog 3 _).alloc _
  ·rintro k (hk|hk|hk|hk);· rw [hk];show w.heap.size<=w.heap.size+1;omega
   ·rw [hk];exact nm _
   ·cases hk
   ·cases hk
  ·exact (zA).alloc (by simp) _
 have b:=hT fin;clear fin;by_cases hp:0<=p/\p<=1048576;·
  have d:(decide (0<=p) && decide (p<=1048576)):=by simp [hp]
  rw [d]at f;obtain ⟨n,rfl⟩:∃n:Nat,p= (n:Int):=⟨p.toNat,by omega⟩;have a:iK (n:Int)= n:=by unfold iK;rw [if_pos hp,GH]
  rw [a];have h:n<=1048576:=by omega
  clear d hp a;go_enter func205,ntmps205;go_wp2_with (go_at_call 241;refine zh f.out ?_);go_ret;exact b.out n h
 ·have d:(decide (0<=p) && decide (p<=1048576))= false:=by rw [Uc];intro c;rw [N6]at c;exact hp ⟨of_decide_eq_true c.1,of_decide_eq_true c.2⟩
  rw [d]at f;have a:iK p= 0:=by unfold iK;rw [if_neg hp]
  rw [a];clear d hp a;go_enter func205,ntmps205;go_wp2_with (go_at_call 241;refine zh f.out ?_);go_ret;exact b.out 0 (by omega)
theorem je (p:Int) (w:World):zF 205 #[zI p] w λe w'=>Made (vw (iK p) (-1)) w.heap.size w e w':=by refine (yq p w).mono ?_;rintro e w' ⟨⟨o,h1,c,b⟩,a⟩;exact ⟨⟨o,h1,⟨_,_,_,c,wF _⟩,b⟩,a⟩
structure Rc (l:zN) (w:World) (v:Value) (w':World):Prop where
 row:Ints w' v l
 new:∀k,v.ownBlock= some k->w.heap.size<=k
 below:zB w w'
open Go.Shelf Go.RowKit Go.Maps Go.Sort
def yr:UU:=⟨λ|6=>192|7=>193|8=>230|9=>231|10=>232|11=>269|12=>270|13=>228|14=>290|15=>291|16=>292|17=>293|18=>294|19=>295|20=>296|21=>297|22=>298|23=>267|24=>268|25=>303|26=>286|28=>304|29=>305|30=>229|31=>306|n=>n,λ|0=>0|3=>3|4=>4|20=>20|21=>21|22=>80|23=>80|24=>59|26=>3|27=>236|28=>237|33=>77|37=>259|39=>289|40=>290|45=>212|48=>66|50=>197|51=>316|55=>320|57=>334|58=>335|70=>172|75=>218|n=>n,λ|n=>n⟩
theorem yt:SlLaysZI.n7 prog yr:={
 mixed:=by kernel_rfl
 f7:=⟨f193.name,by kernel_rfl,func193.trans (congrArg some (by kernel_rfl))⟩
 f10:=⟨f232.name,by kernel_rfl,func232.trans (congrArg some (by kernel_rfl))⟩
 t0:=underlying0
 a0:=isAgg0
 z0:=sizeOf0
 v0:=zeroValue0
 t4:=underlying4
 a4:=isAgg4
 z4:=sizeOf4
 v4:=zeroValue4
 t23:=underlying80
 a23:=isAgg80
 z23:=sizeOf80
 v23:=zeroValue80
 t26:=underlying3
 a26:=isAgg3
 z26:=sizeOf3
 v26:=zeroValue3
 t27:=underlying236
 a27:=isAgg236
 z27:=sizeOf236
 v27:=zeroValue236
 t28:=underlying237
 a28:=isAgg237
 z28:=sizeOf237
 v28:=zeroValue237
 t33:=underlying77
 a33:=isAgg77
 z33:=sizeOf77
 v33:=zeroValue77}
def yu:UU:=⟨λ|6=>192|7=>193|8=>230|9=>231|10=>232|11=>269|12=>270|13=>228|14=>290|15=>291|16=>292|17=>293|18=>294|19=>295|20=>296|21=>297|22=>298|23=>267|24=>268|25=>303|26=>286|28=>304|29=>305|30=>229|31=>306|n=>n,λ|0=>0|20=>20|21=>21|22=>80|23=>80|24=>59|26=>3|28=>237|33=>77|37=>259|39=>289|40=>290|45=>212|48=>66|50=>197|51=>316|55=>320|57=>334|58=>335|70=>172|75=>218|n=>n,λ|n=>n⟩
theorem II:SlLaysZI.n6 prog yu:={
 mixed:=by kernel_rfl
 f6:=⟨f192.name,by kernel_rfl,func192.trans (congrArg some (by kernel_rfl))⟩
 f8:=⟨f230.name,by kernel_rfl,func230.trans (congrArg some (by kernel_rfl))⟩
 f11:=⟨f269.name,by kernel_rfl,func269.trans (congrArg some (by kernel_rfl))⟩
 t0:=underlying0
 a0:=isAgg0
 z0:=sizeOf0
 v0:=zeroValue0
 t24:=underlying59
 a24:=isAgg59
 z24:=sizeOf59
 v24:=zeroValue59
 t26:=underlying3
 a26:=isAgg3
 z26:=sizeOf3
 v26:=zeroValue3
 t28:=underlying237
 a28:=isAgg237
 z28:=sizeOf237
 v28:=zeroValue237
 i26:=by kernel_rfl}
def IJ:UU:=⟨λ|5=>231|7=>270|8=>228|10=>290|11=>291|12=>292|13=>293|14=>294|15=>295|16=>296|17=>297|18=>298|19=>267|20=>268|30=>303|31=>286|32=>287|33=>304|34=>305|35=>229|40=>306|n=>n,λ|0=>0|3=>3|4=>4|5=>5|9=>9|20=>20|21=>21|22=>59|23=>59|25=>3|32=>259|35=>289|36=>290|41=>212|44=>66|46=>197|53=>316|57=>320|63=>334|64=>335|77=>172|82=>218|n=>n,λ|n=>n⟩
theorem ql:SlLaysM.n5 prog IJ:={
 mixed:=by kernel_rfl
 f5:=⟨f231.name,by kernel_rfl,func231.trans (congrArg some (by kernel_rfl))⟩
 f7:=⟨f270.name,by kernel_rfl,func270.trans (congrArg some (by kernel_rfl))⟩
 f8:=func228.trans (congrArg some (by kernel_rfl))
 f10:=⟨f290.name,by kernel_rfl,func290.trans (congrArg some (by kernel_rfl))⟩
 f11:=⟨f291.name,by kernel_rfl,func291.trans (congrArg some (by kernel_rfl))⟩
 f12:=⟨f292.name,by kernel_rfl,func292.trans (congrArg some (by kernel_rfl))⟩
 f13:=⟨f293.name,by kernel_rfl,func293.trans (congrArg some (by kernel_rfl))⟩
 f14:=⟨f294.name,by kernel_rfl,func294.trans (congrArg some (by kernel_rfl))⟩
 f15:=⟨f295.name,by kernel_rfl,func295.trans (congrArg some (by kernel_rfl))⟩
 f16:=⟨f296.name,by kernel_rfl,func296.trans (congrArg some (by kernel_rfl))⟩
 f17:=⟨f297.name,by kernel_rfl,func297.trans (congrArg some (by kernel_rfl))⟩
 f18:=⟨f298.name,by kernel_rfl,func298.trans (congrArg some (by kernel_rfl))⟩
 f19:=func267.trans (congrArg some (by kernel_rfl))
 f20:=func268.trans (congrArg some (by kernel_rfl))
 f30:=⟨f303.name,by kernel_rfl,func303.trans (congrArg some (by kernel_rfl))⟩
 f31:=func286.trans (congrArg some (by kernel_rfl))
 f32:=func287.trans (congrArg some (by kernel_rfl))
 f33:=⟨f304.name,by kernel_rfl,func304.trans (congrArg some (by kernel_rfl))⟩
 f34:=⟨f305.name,by kernel_rfl,func305.trans (congrArg some (by kernel_rfl))⟩
 f35:=⟨f229.name,by kernel_rfl,func229.trans (congrArg some (by kernel_rfl))⟩
 f40:=⟨f306.name,by kernel_rfl,func306.trans (congrArg some (by kernel_rfl))⟩
 t0:=underlying0
 a0:=isAgg0
 z0:=sizeOf0
 v0:=zeroValue0
 t3:=underlying3
 a3:=isAgg3
 z3:=sizeOf3
 v3:=zeroValue3
 t4:=underlying4
 a4:=isAgg4
 z4:=sizeOf4
 v4:=zeroValue4
 t5:=underlying5
 a5:=isAgg5
 z5:=sizeOf5
 v5:=zeroValue5
 t9:=underlying9
 a9:=isAgg9
 z9:=sizeOf9
 v9:=zeroValue9
 t22:=underlying59
 a22:=isAgg59
 z22:=sizeOf59
 v22:=zeroValue59
 t23:=underlying59
 a23:=isAgg59
 z23:=sizeOf59
 v23:=zeroValue59
 t25:=underlying3
 a25:=isAgg3
 z25:=sizeOf3
 v25:=zeroValue3
 t32:=underlying259
 a32:=isAgg259
 z32:=sizeOf259
 v32:=zeroValue259
 t35:=underlying289
 a35:=isAgg289
 z35:=sizeOf289
 v35:=zeroValue289
 t36:=underlying290
 a36:=isAgg290
 z36:=sizeOf290
 v36:=zeroValue290
 t41:=underlying212
 a41:=isAgg212
 z41:=sizeOf212
 v41:=zeroValue212
 t44:=underlying66
 a44:=isAgg66
 z44:=sizeOf66
 v44:=zeroValue66
 t46:=underlying197
 a46:=isAgg197
 z46:=sizeOf197
 v46:=zeroValue197
 t53:=underlying316
 a53:=isAgg316
 z53:=sizeOf316
 v53:=zeroValue316
 t57:=underlying320
 a57:=isAgg320
 z57:=sizeOf320
 v57:=zeroValue320
 t63:=underlying334
 a63:=isAgg334
 z63:=sizeOf334
 v63:=zeroValue334
 t64:=underlying335
 a64:=isAgg335
 z64:=sizeOf335
 v64:=zeroValue335}
theorem IK (m:Nat):AnyZI.SortsIn prog yu TT m:= ⟨λblk off cap ss W hH hblk hsz=>callsIn_wide.2 (AnyM.slices_Sort_int ql blk off cap ss W hH hblk hsz), λp cap W=>callsIn_wide.2 (AnyM.slices_Sort_int_none ql p cap W)⟩
theorem IL (mb:Option Nat) (W:World):zF 193 #[.map mb] W λe w'=>e= nf (.func (.func 232) #[] #[zP W.heap.size])/\w'= W.alloc (hV #[.map mb] 80):= (callsIn_wide (n:=5)).1 (AnyZI.keys_in yt TT 5 trivial rfl mb W)
theorem IM {H:Type} (X b nn:Nat) (D0:DataW H) (R:Value->Option (DataW H×List MemPlace)) (w:World) (g:X<w.heap.size) (d:w.cell? (zD X 0)= some (.map (some b))) (c:w.ownsMap prog 3 R b nn D0) (f:RH D0<=1048576): zF 192 #[.func (.func 232) #[] #[zP X]] w λe w'=>∃(v:Value) (ss:zN),e= nf v/\ss.Perm (intKeys D0)/\ w'.ownsRow w.heap.size 3 1 v ss.length ((ss.mergeSort (λx y=>decide (x<=y))).map encZ)/\(v= AF none 0 0↔ss= [])/\zB w w':=by refine (callsIn_wide (n:=5)).1 ?_;have a:SeqGives TT 2 prog 232 #[zP X] encZ (λss=>ss.Perm (intKeys D0)) (RH D0) w:= AnyZI.keys_gives (ρ:=yr) {yt with} TT _ trivial rfl (by omega) X b nn D0 _ g d c;have cS:=AnyZI.sorted_in II TT 5 trivial trivial trivial trivial rfl (by omega) (IK _) (enters_of func231 (by kernel_rfl) rfl) 232 #[zP X] trivial (enters_of func232 (by kernel_rfl) rfl) _ _ (by unfold maxLen;omega) (by omega) _ a;exact cS
def fj (l:zX):List Value:=l.flatMap λx=> [zI x.1,zI x.2]
theorem IP (l:zX) (x:Int×Int):fj (l ++ [x])= fj l ++ [zI x.1,zI x.2]:=by simp [fj]
theorem IQ (l:zX) (i:Nat) (h:i<l.length):(fj l)[i*2]?= some (zI l[i].1)/\(fj l)[i*2+1]?= some (zI l[i].2):=by induction l generalizing i with
 | nil=>simp at h
 | cons x l ih => have e:fj (x :: l)= zI x.1 :: zI x.2 :: fj l:=rfl;rw [e];cases i with
 | zero=>simp
 | succ i => have:=ih i (by simpa using h);rw [show (i+1) *2= i*2+1+1 by omega];simpa using this
theorem IU (x y:Int):∀u∈([zI x,zI y]:List Value),u.oneCell'= true:=λu hu=>by
 rcases List.mem_cons.1 hu with rfl|hu;· rfl
 ·rw [H5.1 hu];rfl
theorem yv:(prog.info? 193).map (λi=>(i.zero,i.size,i.bytes))= some (some (zM 0 0),2,16):=by kernel_rfl
abbrev qm (w:World) (v:Value) (l:zX):Prop:=w.ownsRow 0 193 2 v l.length (fj l)
theorem yw {o:Oper} {a:Act} (i:o.guard= none) (s x:Operand) (q:o.op= .call {callee:= .builtin .append,args:=#[s,x],argTypes:=#[139,139]}) (v:Value) (n:Nat) (l:zX) (p:a.eval s= v) (t:n= l.length) (u:n<=1099511627776) (c:w.ownsRow 0 193 2 v n (fj l)) (b:Nat) (y z:Int) (m:a.eval x= (zS b 1 1)) (r:w.heap[b]?= some (hV #[zI y,zI z] 193 (0,0))) (h:∀v' w',w'.ownsRow 0 193 2 v' (n+1) (fj (l ++ [(y,z)]))->Fr (λk=>v.ownBlock= some k) w w'->(∀k,v'.ownBlock= some k->v.ownBlock= some k\/w.heap.size<=k)->wpList prog ops Q rest (a.put o.dst v') w'):wpList prog ops Q (o :: rest) a w:=by
 obtain ⟨j,hi,g,f,d⟩:=info_parts yv;refine nZ i s x _ q 193 j _ 2 16 underlying139 hi g f d rfl (by decide) v n (fj l) p c ⟨b,0,none⟩ 1 1 [zI y,zI z] m rfl (Ul r) (IU y z) (by unfold maxLen;omega) (by omega) λv' w' h1 h2 h3=>?_;refine h v' w' (by rw [IP];exact h1) (Fr.jz (F:=λk=>v.ownBlock= some k) h2 λk e=>e) λk hk=>?_;rcases h3 with e|e;· exact .inl (by rw [<-e];exact hk)
 ·right;rw [hk]at e;injection e with e;omega
theorem yx {c:Nat} {l:zX} (h:qm w (.slice a l.length c) l) (i:Nat) (hi:i<l.length): ∃b,a= some ⟨b,0,none⟩/\b<w.heap.size/\w.cell? ⟨b,i*2,none⟩= some (zI l[i].1)/\w.cell? ⟨b,i*2+1,none⟩= some (zI l[i].2):=by
 rcases h.2 with ⟨h1,f⟩|⟨b,cap,cur,d,_,e,_⟩;· omega
 ·injection d with h1 f h3;subst h1;subst h3;obtain ⟨j,g⟩:=IQ l i hi;exact ⟨b,rfl,lt_of_heap e,by rw [h.cellAt _ (by omega)];exact j,by rw [h.cellAt _ (by omega)];exact g⟩
def f_ (w:World) (a:Option Addr) (l:zX):Prop:=l≠ []->∃b off,a= some ⟨b,off,none⟩/\b<w.heap.size/\∀i x,l[i]?= some x->w.cell? ⟨b,off+i*2,none⟩= some (zI x.1)/\w.cell? ⟨b,off+i*2+1,none⟩= some (zI x.2)
theorem f_.below {l:zX} (h:f_ w a l) (d:zB w w'):f_ w' a l:=λhn=>by obtain ⟨b,off,e,c,f⟩:=h hn;exact ⟨b,off,e,ti c d.size,λi x hx=>⟨(d.cell (p:=⟨b,off+i*2,none⟩) c).trans (f i x hx).1,(d.cell (p:=⟨b,off+i*2+1,none⟩) c).trans (f i x hx).2⟩⟩
theorem f_.get {l:zX} (h:f_ w a l) (d:zB w w') {i:Nat} (hi:i<l.length): ∃b off,a= some ⟨b,off,none⟩/\w'.cell? ⟨b,off+i*2,none⟩= some (zI l[i].1)/\w'.cell? ⟨b,off+i*2+1,none⟩= some (zI l[i].2):=by obtain ⟨b,off,e,c,f⟩:=h (by rintro rfl;simp at hi);have:=f i _ (C1 hi);exact ⟨b,off,e,(d.cell (p:=⟨b,off+i*2,none⟩) c).trans this.1,(d.cell (p:=⟨b,off+i*2+1,none⟩) c).trans this.2⟩
theorem f_.own {c:Nat} {l:zX} (h:qm w (.slice a l.length c) l):f_ w a l:=λhn=>by obtain ⟨b,e,d,_⟩:=yx h 0 (UO.2 hn);refine ⟨b,0,e,d,λi x hx=>?_⟩;obtain ⟨hi,rfl⟩:=C2.1 hx;obtain ⟨b',e',_,c0,c1⟩:=yx h i hi;rw [e]at e';injection e' with e';injection e' with e';subst e';rw [Nat.zero_add];exact ⟨c0,c1⟩
structure gD (w:World) (l:zX) (v:Value) (n:Nat) (wr:World):Prop where
 row:wr.ownsRow 0 193 2 v n (fj l)
 len:n= l.length
 new:∀k,v.ownBlock= some k->w.heap.size<=k
 below:zB w wr
variable{wr:World}
theorem gD.nil (a:zB w wr):gD w [] (AF none 0 0) 0 wr:=⟨Ts _ _ _ _,rfl,λk hk=>(by cases hk),a⟩
variable{v:Value}
theorem gD.next {l:zX} (h:gD w l v n wr) (b:zB wr w2):gD w l v n w2:= ⟨bc h.row λj hj=>b.block j (by obtain ⟨cur,a⟩:=bV h.row j hj;exact lt_of_heap a),h.len,h.new,h.below.trans (b.mono h.below.size)⟩
theorem gD.own {l:zX} (h:gD w l v n wr) (y z:Int):(wr.alloc (zE y z 193)).ownsRow 0 193 2 v n (fj l):= bc h.row λj hj=>PC _ _ _ (by obtain ⟨cur,a⟩:=bV h.row j hj;exact lt_of_heap a)
theorem gD.add {l:zX} {v':Value} {z:Int} (h:gD w l v n wr) (h1:w'.ownsRow 0 193 2 v' (n+1) (fj (l ++ [(y,z)]))) (g:Fr (λk=>v.ownBlock= some k) (wr.alloc (zE y z 193)) w') (f:∀k,v'.ownBlock= some k->v.ownBlock= some k\/(wr.alloc (zE y z 193)).heap.size<=k):gD w (l ++ [(y,z)]) v' (n+1) w':=by
 have b:zB wr (wr.alloc (zE y z 193)):=zA;have d:=(Fr.ax b).trans g (λ_ _ e=>e);have c:(wr.alloc (zE y z 193)).heap.size= wr.heap.size+1:=by simp
 have a:=h.below.size;refine ⟨h1,by rw [h.len];simp,λk hk=>?_,h.below.trans (d.below a λj hj=>h.new j hj)⟩;rcases f k hk with e|e;· exact h.new k e
 ·omega
def mF (l:zX) (w:World) (e:Ending) (w':World):Prop:=∃v,e= nf v/\qm w' v l/\(∀k,v.ownBlock= some k->w.heap.size<=k)/\zB w w'
theorem gD.made {l:zX} (h:gD w l v n wr):mF l w (nf v) wr:=⟨v,rfl,by show Tt _ _ _ _ _ _ _;rw [<-h.len];exact h.row,h.new,h.below⟩
theorem all_nil (w:World):zF 142 #[xb none] w (zQ (AF none 0 0) w):=by go_enter func142,ntmps142;go_wp2;go_ret;exact ⟨rfl,rfl⟩
structure tN (w:World) (o:Ob) (m K:zN) (kv sv:Value) (i:Nat) (wr:World):Prop where
 tm:Tm wr o m
 kr:Ints wr kv K
 sr:wr.ownsRow 0 193 2 sv i (fj ((all m).take i))
 new:∀k,sv.ownBlock= some k->w.heap.size<=k
 ne:∀k,sv.ownBlock= some k->kv.ownBlock≠some k
 below:zB w wr
theorem IW (h:Tm w o m): zF 142 #[zP o.p] w λe w'=>∃v,e= nf v/\qm w' v (all m)/\(∀k,v.ownBlock= some k->w.heap.size<=k)/\zB w w':=by
 obtain ⟨i0,hi,bo,bm,bl⟩:=info_parts yv;have H:=hT h;obtain ⟨n,c,g,G,hm⟩:=h;obtain ⟨_,h1,_,_,_⟩:=G.reads;obtain ⟨D,hD,hk⟩:=G.placeOf;have P:=nx G.pr.ok;rw [me]at P;obtain ⟨f,B⟩:=sZ hD hk P;have aw:=G.pr.aS;have bs:(used c).length<=c.length:=mf _;have bS:=G.pr.len;have X:=G.lt o.p (.inl rfl);have Y:=G.lt o.mb (.inr (.inl rfl));have bx:RH D<=1048576:=by omega
 obtain ⟨N,hN⟩:=eX1 (RH D);have F:Hid (N= (all m).length):=hT (by rw [mh,<-hm,me,hN,B]);have HD:=hT hD;have HN:=hT hN;have cb:N<=1048576:=by omega
 rw [hN.symm]at bx;have KY:Hid (∀w1,zB w w1->w1.cell? (zD o.p 1)= some (.map (some o.mb))/\w1.ownsMap prog 3 (plainElem (H:=Unit) prog 3) o.mb (RH D) D):=hT λw1 hb=> ⟨(hb.cell (p:=(zD o.p 1)) X).trans h1,iF hD (hb.block o.mb Y)⟩;have SN:Hid (∀ss:zN,ss.Perm (intKeys D)->ss.length= N):=hT λss hp=>by rw [(hp.trans f.symm).length_eq,hN,B]
 have SK:Hid (∀ss:zN,ss.Perm (intKeys D)->ss.mergeSort (λx y=>decide (x<=y))= keys m):=hT λss hp=>by unfold keys;rw [<-hm,me];exact mergeSort_of_perm_i (hp.trans f.symm)
 have EN:Hid (∀(i:Nat) (k:Int),(keys m)[i]?= some k->(PO lg k).wf= true/\(all m)[i]?= some (entry m k)/\∀x:Int,D.atKey (.int lg k) (.lit (.int lg 0))= .lit (.int lg x)->(k,x)= entry m k):=hT λi k hi=>by have t:=kU.1 (P1 hi);obtain ⟨j,l⟩:=TF t.1;have A:=G.pr.ok.bU k (by rw [hm];exact t.1);have af:=l;rw [<-hm]at af;have hc:=wH af t.2;refine ⟨by simp [Lit.wf,V7,V8,V9,V_];omega,by unfold all;rw [RI,hi];rfl,λx U=>?_⟩;have h1:=hk.2.2 j k hc t.2 (.lit (.int lg 0));rw [U]at h1;injection h1 with h1;injection h1 with _ h1;unfold entry;rw [H.out.ok.find t.2 l,h1];rfl
 clear hD hk P f B aw bs bS hm hN;go_enter func142,ntmps142;go_wp2_with (first
  | (at_len;refine wpList_len_own _ rfl _ 80 rfl 3 3 underlying80 _ o.mb (RH D) D rfl HD.out ?_;rw [<-HN.out])
  | (at_make;refine wpList_make_own _ rfl _ _ 139 rfl 0 193 i0 _ 2 underlying139 hi bo bm lg lg _ N rfl rfl rfl (by rw [bl];omega) (by unfold maxLen;omega) (yb _) ?_;intro w1 W ao;have R1:=hT W;have B1:=hT ((G3 _ w).grown ao (nm _) (λk e=>by cases e));have c1:=(KY.out w1 B1.out).1;clear W ao h1)
  | (go_at_call 193;refine zg (IL _ _) λw2 hw2=>?_;have B2:Hid (zB w w2):=hT (by rw [hw2];exact B1.out.alloc B1.out.size _);have W2:=hT hw2;have SO:=hT (IM w1.heap.size o.mb (RH D) D _ w2 (by rw [hw2];simp) (by rw [hw2];simp) (KY.out w2 B2.out).2 (by rw [<-HN.out];exact cb));clear hw2)
  | (go_at_call 192;refine SO.out.mono ?_;rintro e w3 ⟨kv,ss,rfl,O,d,bG,R⟩;have P3:=hT O;have R3:=hT d;have B3:=zT B2 R;have bg:=hT R;obtain ⟨ka,kc,ad⟩:=ck d;have M:=SN.out ss O;rw [M]at ad;have bf:=hT M;subst ad;clear O d bG R M));have A0:Hid (tN w o m (keys m) (.slice ka N kc) (zS w.heap.size 0 N) 0 w3):=by
  have d:=R3.out;rw [SK.out ss P3.out,bf.out]at d;have Q:(keys m).length= N:=by rw [ny,<-mh,<-F.out]
  have z:zB w1 w2:=by rw [W2.out];exact zA
  have ba:=z.trans (bg.out.mono z.size);have Z:w.heap.size<w1.heap.size:=by
   rcases R1.out.2 with ⟨h1,_⟩|⟨b,cap,cur,A,_,hh,_⟩;· cases h1
   ·injection A with A;injection A with A;injection A with A;rw [A];exact lt_of_heap hh
  have bP:=z.size;refine hT ⟨H.out.below B3.out,?_,?_,λk hk=>?_,λk hk=>?_,B3.out⟩;· show Tt _ _ _ _ _ _ _;rw [Q];exact ⟨d.1,d.2.imp id λ⟨b,cap,cur,h1,h2,h3⟩=>⟨b,cap,cur,h1,yb _,h3⟩⟩
  ·exact bc R1.out λk hk=>by injection hk with hk;have hk:w.heap.size= k:=hk;rw [<-hk];exact ba.block _ Z
  ·injection hk with hk;have hk:w.heap.size= k:=hk;omega
  ·injection hk with hk;have hk:w.heap.size= k:=hk;intro e;rcases d.2 with ⟨h1,_⟩|⟨b,cap,cur,A,hb,_⟩;· rw [h1]at e;cases e
   ·rw [A]at e;injection e with e;have e:b= k:=e;omega
 clear R1 B1 c1 W2 SO P3 R3 bg B2 B3 SN SK bf;go_loopw [21,3] (λv s wr=>∃(k:Nat) (sv:Value),v= .int lg k/\s= sv/\k<=N/\Hid (tN w o m (keys m) (.slice ka N kc) sv k wr)) (λv _ _=>N - (wo v).toNat);case atStart=>exact ⟨0,_,rfl,rfl,yb _,A0⟩
 case round=>
  obtain ⟨k,sv,rfl,rfl,cp,a⟩:=hrel;by_cases cm:k<N;·
   have Q:(keys m).length= N:=by rw [ny,<-mh,<-F.out]
   have I:=a.out.kr;have r:Ints wr (.slice ka (keys m).length kc) (keys m):=by rw [Q];exact I
   obtain ⟨b,ca,hb,hc,_⟩:=fi r k (by omega);subst ca;obtain ⟨x,U⟩:=eX1 (Hp.at_ (keys m) k);have ab:(keys m)[k]?= some x:=by rw [U];exact Hp.iX _ _ (by omega)
   rw [<-U]at hc;obtain ⟨V,L,K⟩:=EN.out k x ab;have bb:=hT (n_ x V);obtain ⟨c1,J⟩:=KY.out wr a.out.below;have HO:=hT J;obtain ⟨sa,sc,bt⟩:=ck a.out.sr;subst bt;have HE:=hT K;have HA:=hT L;have cf:Hid (k= ((all m).take k).length):=hT (by have:=F.out;simp;omega);have cc:Hid (∀y:Int,(wr.alloc (hV #[.int lg x, .int lg y] 193)).ownsRow 0 193 2 (.slice sa k sc) k (fj ((all m).take k))):=hT λy=> bc a.out.sr λj l=>PC _ _ _ (by obtain ⟨cur,u⟩:=bV a.out.sr j l;exact lt_of_heap u);have cg:Hid (∀(y:Int) T S,(x,y)= entry m x->S.ownsRow 0 193 2 T (k+1) (fj ((all m).take k ++ [(x,y)]))->Fr (λj=>(AF sa k sc).ownBlock= some j) (wr.alloc (hV #[.int lg x, .int lg y] 193)) S-> (∀j,T.ownBlock= some j->(AF sa k sc).ownBlock= some j\/(wr.alloc (hV #[.int lg x, .int lg y] 193)).heap.size<=j)->tN w o m (keys m) (zS b N kc) T (k+1) S):=hT λy T S he C E q=>by
    have bX:zB wr (wr.alloc (hV #[.int lg x, .int lg y] 193)):=zA;have hF:=(Fr.ax bX).trans E (λ_ _ e=>e);have ch:=a.out.below.size;have B:(wr.alloc (hV #[.int lg x, .int lg y] 193)).heap.size= wr.heap.size+1:=by simp
    refine ⟨a.out.tm.keep hF λj l hs=>?_,bc a.out.kr λj l=>hF.block j ?_ (λe=>a.out.ne j e l),?_,λj l=>?_,λj l=>?_,?_⟩;· have h1:=a.out.new j hs;have h2:=H.out.lt j l;omega
    ·obtain ⟨cur,u⟩:=bV a.out.kr j l;exact lt_of_heap u
    ·rw [Wy,HA.out,<-he];exact C
    ·rcases q j l with e|e;· exact a.out.new j e
     ·omega
    ·rcases q j l with e|e;· exact a.out.ne j e
     ·intro c;obtain ⟨cur,u⟩:=bV a.out.kr j c;have:=lt_of_heap u;omega
    ·exact a.out.below.trans (hF.below a.out.below.size λj l=>a.out.new j l)
   clear U ab V L K I r J;go_wp2_with (first
    | (at_lookup;refine wpList_lookup_own_int _ rfl _ _ 80 rfl 3 3 lg ik underlying80 underlying3 (jF _) o.mb (RH D) D rfl HO.out _ (.int lg x) rfl bb.out ?_;intro y hy bq;have HY:=hT (HE.out y hy);clear hy bq)
    | (at_builtin;refine yw rfl (.tmp 25) (.tmp 34) rfl (.slice sa k sc) k ((all m).take k) rfl cf.out (by omega) (cc.out y) wr.heap.size x y rfl (heap_alloc_new _ _) ?_;intro T S C E q;have F4:=hT (cg.out y T S HY.out C E q);clear C E q));go_roundw;case rel=>exact ⟨k+1,_,by go_num,rfl,by omega,F4⟩
   case measure=>simp [wo];omega
  ·obtain rfl:k= N:=by omega
   go_wp2;go_ret;have hr:=a.out.sr;rw [F.out,List.take_length]at hr;exact ⟨_,rfl,hr,a.out.new,a.out.below⟩
def tO (l:zN) (x:Int) (w:World) (e:Ending) (w':World):Prop:=∃v,e= zV v (zI x)/\Ints w' v l/\(∀k,v.ownBlock= some k->w.heap.size<=k)/\zB w w'
theorem yy (h:Tm w o m) (i:Int):zF 250 #[zP o.p,zI i] w (tO (od m i) (oe m i) w):=by
 by_cases a:0<=i/\i< (a_ m.length:Int);·
  obtain ⟨k,rfl⟩:∃k:Nat,i= (k:Int):=⟨i.toNat,by omega⟩;have hk:k<a_ m.length:=by omega
  rw [tI hk,tJ hk];refine (kY h k hk).mono ?_;rintro e w' ⟨g,rfl,h1,j,c⟩;refine ⟨_,rfl,?_,λx b=>?_,c⟩;· show Tt _ _ _ _ _ _ _;rw [mi];have:=Il (mi m k) h1;have e:=this;unfold Ints at e;rwa [mi]at e
  ·have b:g= x:=by injection b
   omega
 ·have f:od m i= []:=by unfold od;rw [if_neg a]
  have d:oe m i= 2:=by unfold oe;rw [if_neg a]
  rw [f,d];refine zh (Im h i a) ?_;exact ⟨_,rfl,Ts _ _ _ _,(λk hk=>by cases hk),G3 _ _⟩
def Rd (w:World) (a:Option Addr) (l:zN):Prop:=l≠ []->∃b off,a= some ⟨b,off,none⟩/\b<w.heap.size/\∀i x,l[i]?= some x->w.cell? ⟨b,off+i,none⟩= some (zI x)
theorem Rd.below (h:Rd w a l) (d:zB w w'):Rd w' a l:=λhn=>by obtain ⟨b,off,e,c,f⟩:=h hn;exact ⟨b,off,e,ti c d.size,λi x hx=>(d.cell (p:=⟨b,off+i,none⟩) c).trans (f i x hx)⟩
theorem Rd.own (h:Ints w v l):∃a c,v= .slice a l.length c/\Rd w a l:=by
 obtain ⟨a,c,rfl⟩:=fZ h;refine ⟨a,c,rfl,λhn=>?_⟩;obtain ⟨b,rfl⟩:=tH h (UO.2 hn);refine ⟨b,0,rfl,?_,λi x hx=>?_⟩;· obtain ⟨cur,d⟩:=bV h b rfl;exact lt_of_heap d
 ·rw [Nat.zero_add,h.cellAt i (by rw [Nat.mul_one];exact (C2.1 hx).1),RI,hx];rfl
theorem I7 (j:Nat) (h:c.length+j<=n):full n (c ++ vw j (-1))= full n c:=by induction j with
 | zero=>simp
 | succ j ih=>rw [VG,<-NR,pA (by simp;omega),ih (by omega)]
structure iL (w:World) (o0:Nat) (n:Nat) (l:zN) (k:Nat) (wr:World) (o:Ob) (c g:zN):Prop where
 tk:Tk wr o n c g
 p:o.p= o0
 full:full n c= pad n (l.take k)
 len:c.length<=k
 aN:∀j,j<k->iY n l j= false
 new:∀j,o.fp j->w.heap.size<=j
 below:zB w wr
theorem iL.yF {o0 k:Nat} (h:iL w o0 n l k wr o c g) {x:Int} (a:0<=x):x∈c↔x∈l.take k:=by rw [<-Ep a h.aN,<-h.full,ma a]
theorem iL.step {o0 k:Nat} {o2:Ob} (h:iL w o0 n l k wr o c g) {x:Int} (b:l[k]?= some x) (i:iY n l k= false) (q:0<=x) (f:k<n) {g2:zN} (d:Tk w2 o2 n (c ++ vw (k - c.length) (-1) ++ [x]) g2) (a:Step o o2 wr w2):iL w o0 n l (k+1) w2 o2 (c ++ vw (k - c.length) (-1) ++ [x]) g2:=by
 have m:=h.len;have hlen:(c ++ vw (k - c.length) (-1)).length= k:=by simp;omega
 obtain ⟨b1,b2⟩:=a.below h.below.size h.new;refine ⟨d,a.p.trans h.p,?_,?_,λj hj=>?_,b2,h.below.trans b1⟩;· rw [<-pB x (by omega),hlen,I7 _ (by omega),h.full,<-Eo b f]
 ·rw [DC,hlen,T3];omega
 ·by_cases e:j= k;· rw [e];exact i
  ·exact h.aN j (by omega)
theorem iL.skip {o0 k:Nat} (h:iL w o0 n l k wr o c g) (a:l[k]?= some (-1)):iL w o0 n l (k+1) wr o c g:=by
 have d:=h.len;refine ⟨h.tk,h.p,by rw [h.full,El a],by omega,λj hj=>?_,h.new,h.below⟩;by_cases e:j= k;· subst e;rw [Uc];intro b;exact ((nz a).1 b).1 rfl
 ·exact h.aN j (by omega)
def kt (p:Int) (l:zN) (w:World) (e:Ending) (w':World):Prop:= zB w w'/\((gM p l≠0/\e= zV (xb none) (zI (gM p l)))\/ (gM p l= 0/\∃o,e= zV (zP o.p) (zI 0)/\Tm w' o (l.take p.toNat)/\∀k,o.fp k->w.heap.size<=k))
theorem I8 {p:Int} (a:Option Addr) (c:Nat) (o:l.length<=4611686018427387904) (b:p<0\/p>1048576\/l.length≠a_ p.toNat*13): zF 210 #[zI p, .slice a l.length c] w (kt p l w):=by
 have f:gM p l= 1:=by unfold gM;rw [if_pos b]
 have g:=hT (tF p w);have e:Hid (kt p l w (zV (xb none) (zI 1)) w):=hT ⟨G3 _ _, .inl ⟨by rw [f];decide,by rw [f]⟩⟩;obtain ⟨N,j⟩:=eX1 l.length;rw [<-j]at b o⊢;by_cases hp:0<=p/\p<=1048576;·
  have d:(decide (0<=p) && decide (p<=1048576)):=by simp [hp]
  rw [d]at g;obtain ⟨n,rfl⟩:∃n:Nat,p= (n:Int):=⟨p.toNat,by omega⟩;rw [GH]at b;have k:=hT (qj n w (by omega));obtain ⟨q,h⟩:=eX1 (a_ n);rw [<-h]at k b;have m:q<=1048576:=by rw [h];unfold a_;omega
  have i:N≠q*13:=by omega
  obtain ⟨Q,r⟩:=eX1 (q*13);have t:(q:Int) *13= (Q:Int):=by omega
  have s:lg.wrap (Q:Int)= (Q:Int):=by rw [rr _ (by omega)]
  have d1:((N:Int) != (Q:Int)):=by simp;omega
  clear j h r i b hp d f;go_enter func210,ntmps210;go_wp2_with (first
   | (go_at_call 241;refine zh g.out ?_)
   | (go_at_call 245;refine zh k.out ?_));go_ret2;exact e.out
 ·have d:(decide (0<=p) && decide (p<=1048576))= false:=by rw [Uc];intro c;rw [N6]at c;exact hp ⟨of_decide_eq_true c.1,of_decide_eq_true c.2⟩
  rw [d]at g;clear j b hp d f;go_enter func210,ntmps210;go_wp2_with (go_at_call 241;refine zh g.out ?_);go_ret2;exact e.out
theorem I9 {p:Int} {k:Nat} (a:¬(p<0\/p>1048576\/l.length≠a_ p.toNat*13)) (hk:k<l.length) (d:iY p.toNat l k) (b:zB w wr): kt p l w (zV (xb none) (zI 165)) wr:=by
 have c:gM p l= 165:=by unfold gM;rw [if_neg a,if_pos (Ei hk d)]
 exact ⟨b, .inl ⟨by rw [c];decide,by rw [c]⟩⟩
theorem lS (a:Option Addr) (c0:Nat) (hn:n≤1048576) (hl:l.length= a_ n*13) (hr:Rd w a l) (V:∀x∈l,(PO lg x).wf):
    zF 210 #[.int lg n, .slice a l.length c0] w (kt (n:Int) l w):=by
  have MH:=hT (tF (n:Int) w)
  have d:(decide (0≤(n:Int)) && decide ((n:Int)≤1048576)):=by simp;omega
  rw [d]at MH
  have PG:=hT (qj n w hn)
  have NW:=hT (yq (n:Int) w)
  have Y:iK (n:Int)= n:=by unfold iK;rw [if_pos ⟨by omega,by omega⟩,GH]
  rw [Y]at NW
  have X:Hid (¬((n:Int) <0∨(n:Int) >1048576∨l.length≠a_ (n:Int).toNat*13)):=hT (by rw [GH];omega)
  have t:Hid (∀(wr:World) (k:Nat) (x:Int),k<l.length→l[k]?= some x→x≠ -1→(¬(0≤x∧x≤2147483646)∨n≤k∨x∈l.take k)→zB w wr→kt (n:Int) l w (zV (xb none) (.int lg 165)) wr):=hT fun wr k x hk F h1 h2 Q=>
    I9 X.out hk (by rw [GH];exact (nz F).2 ⟨h1,h2⟩) Q
  obtain ⟨N,hN⟩:=eX1 l.length
  obtain ⟨q,hq⟩:=eX1 (a_ n)
  have ba:n≤N:=by rw [hN,hl];unfold a_;omega
  have bf:N≤1048600:=by rw [hN,hl];unfold a_;omega
  rw [←hq]at PG
  rw [←hN]at t⊢
  have HN:=hT hN
  have aw:=hT V
  have HR:Hid (∀wr,zB w wr→Rd wr a l):=hT fun wr Q=>hr.below Q
  have k1:lg.wrap ((q:Int) *13)= (N:Int):=by rw [rr _ (by omega)];omega
  have k2:(q:Int) *13= (N:Int):=by omega
  have k3:lg.wrap (N:Int)= (N:Int):=by rw [rr _ (by omega)]
  have d1:((N:Int) != (N:Int))= false:=by simp
  have d2:((N:Int) == (N:Int)):=by simp
  clear hN hq hl Y d V hr
  go_enter func210,ntmps210
  go_wp2_with (first
    | (go_at_call 241;refine zh MH.out ?_)
    | (go_at_call 245;refine zh PG.out ?_)
    | (go_at_call 205;refine NW.out.mono ?_;rintro e w1 J;obtain ⟨⟨o,rfl,W,G⟩,Z⟩:=J;have TM:=hT W;have O:=hT G;have B1:=hT Z;clear W G Z))
  obtain ⟨P,hP⟩:=eX1 o.p
  rw [←hP]
  have A0:Hid (∃c g,iL w P n l 0 w1 o c g):=by
    exact hT ⟨[], [],TM.out,hP.symm,by rw [List.take_zero];unfold pad;rw [List.take_nil],yb _,fun j hj=>absurd hj (by omega),O.out,B1.out⟩
  clear hP
  go_loopw [26] (fun v wr=>∃(k:Nat) (o:Ob) (c g:zN),v= .int lg k∧k≤N∧Hid (iL w P n l k wr o c g)) (fun v _=>N - (wo v).toNat)
  case atStart=>
    obtain ⟨c,g,h⟩:=A0.out
    exact ⟨0,o,c,g,rfl,yb _,hT h⟩
  case round=>
    obtain ⟨k,H,c,g,rfl,bb,f⟩:=hrel
    have B:=HN.out
    by_cases K:k<N
    · have t2:decide (k<N):=by simp;omega
      obtain ⟨x,F⟩:∃x,l[k]?= some x:=⟨l[k],C1 (by omega)⟩
      obtain ⟨b,off,ao,Q,hc⟩:=(HR.out wr f.out.below) (fun e=>by rw [e]at F;simp at F)
      subst ao
      have hc:=hc k x F
      have U:=aw.out x (P1 F)
      have R:=hT F
      clear F A0 TM O B1 NW MH PG
      by_cases s:x= -1
      · subst s
        clear B
        go_wp2
        go_roundw
        case rel=>exact ⟨k+1,H,c,g,by go_num,by omega,hT (f.out.skip R.out)⟩
        case measure=>simp [wo];omega
      · have t3:(x == -1)= false:=by simpa using s
        obtain ⟨D,hD,E⟩:=f.out.tk.placeOf
        obtain ⟨_,h1,_,_,_⟩:=f.out.tk.reads
        rw [f.out.p]at h1
        have HD:=hT hD
        have A:=hT (n_ x U)
        have CH:=hT (x_ x wr)
        cases htw:Maps.has D (.int lg x) with
        | true =>
          have HH:=hT htw
          have L:=(E.2.1 x).1 htw
          have z:=hT (t.out wr k x K R.out s (.inr (.inr ((f.out.yF L.1).1 L.2))) f.out.below)
          clear htw E hD B s L t
          go_wp2_with (at_lookup;refine wpList_lookup_own_ok_int _ rfl _ _ 80 rfl 3 3 lg ik underlying80 underlying3 (jF _) H.mb (RH D) D rfl HD.out _ (.int lg x) rfl A.out ?_;intro y I u;rw [HH.out];clear I u)
          go_ret2
          exact z.out
        | false =>
          have HH:=hT htw
          have m:0≤x→x∉c:=fun h0 hc=>by rw [(E.2.1 x).2 ⟨h0,hc⟩]at htw;cases htw
          clear htw E hD
          by_cases r:0≤x∧x≤2147483646
          · rw [decide_eq_true r]at CH
            by_cases ab:n≤k
            · have z:=hT (t.out wr k x K R.out s (.inr (.inl ab)) f.out.below)
              clear B s r t m
              go_wp2_with (first
                | (at_lookup;refine wpList_lookup_own_ok_int _ rfl _ _ 80 rfl 3 3 lg ik underlying80 underlying3 (jF _) H.mb (RH D) D rfl HD.out _ (.int lg x) rfl A.out ?_;intro y I u;rw [HH.out];clear I u)
                | (go_at_call 246;refine zh CH.out ?_))
              go_ret2
              exact z.out
            · have SK:=hT (IG f.out.tk k (by omega))
              rw [f.out.p]at SK
              have af:=f.out.len
              have ST:Hid (∀w2 g2,ai H n (c ++ vw (k - c.length) (-1)) g2 wr w2→zF 248 #[zP P, .int lg k, .int lg x] w2 fun e w'=>e= nf (CE #[])∧∃S,iL w P n l (k+1) w' S (c ++ vw (k - c.length) (-1) ++ [x]) g2):=hT fun w2 g2 C=>by
                obtain ⟨o2,t2,s2⟩:=C
                have hlen:(c ++ vw (k - c.length) (-1)).length= k:=by simp;omega
                have T:x∉c ++ vw (k - c.length) (-1):=by
                  rw [RR]
                  rintro (h|h)
                  · exact m r.1 h
                  · exact s (List.mem_replicate.1 h).2
                have ad:(used (c ++ vw (k - c.length) (-1))).Nodup:=by
                  have:=nx t2.pr.ok
                  rwa [me]at this
                have:=yo t2.raw x r.1 T U ad (by omega)
                rw [hlen,s2.p,f.out.p]at this
                refine this.mono ?_
                rintro e w' ⟨rfl,S,r3,s3⟩
                have M:iY n l k= false:=by
                  rw [Uc]
                  intro Q
                  rcases ((nz R.out).1 Q).2 with h|h|h
                  · exact h r
                  · omega
                  · exact m r.1 ((f.out.yF r.1).2 h)
                exact ⟨rfl,S,f.out.step R.out M r.1 (by omega) (r3.tk (t2.pr.snoc (by omega) r.1 r.2 T)) (s2.trans s3)⟩
              clear B s r t m af
              go_wp2_with (first
                | (at_lookup;refine wpList_lookup_own_ok_int _ rfl _ _ 80 rfl 3 3 lg ik underlying80 underlying3 (jF _) H.mb (RH D) D rfl HD.out _ (.int lg x) rfl A.out ?_;intro y I u;rw [HH.out];clear I u)
                | (go_at_call 246;refine zh CH.out ?_)
                | (go_at_call 247;refine SK.out.mono ?_;rintro e w2 ⟨rfl,g2,C⟩;have S2:=hT (ST.out w2 g2 C);clear C)
                | (go_at_call 248;refine S2.out.mono ?_;rintro e w3 ⟨rfl,S,h3⟩;have H3:=hT h3;clear h3))
              go_roundw
              case rel=>exact ⟨k+1,S,_,g2,by go_num,by omega,H3⟩
              case measure=>simp [wo];omega
          · rw [decide_eq_false r]at CH
            have z:=hT (t.out wr k x K R.out s (.inl r) f.out.below)
            clear B s r t m
            go_wp2_with (first
              | (at_lookup;refine wpList_lookup_own_ok_int _ rfl _ _ 80 rfl 3 3 lg ik underlying80 underlying3 (jF _) H.mb (RH D) D rfl HD.out _ (.int lg x) rfl A.out ?_;intro y I u;rw [HH.out];clear I u)
              | (go_at_call 246;refine zh CH.out ?_))
            go_ret2
            exact z.out
    · obtain rfl:k= N:=by omega
      have t2:decide (k<k)= false:=by simp
      have z:Hid (kt (n:Int) l w (zV (zP P) (.int lg 0)) wr):=by
        have he:gM (n:Int) l= 0:=by
          unfold gM
          rw [if_neg X.out,GH,wM (fun i hi=>f.out.aN i (by omega))]
          rfl
        refine hT ⟨f.out.below, .inr ⟨he,H,by rw [f.out.p],⟨n,c,g,f.out.tk,?_⟩,f.out.new⟩⟩
        rw [f.out.full,GH,OP (by omega),Ej (by omega)]
      clear B A0 TM O B1 NW MH PG t
      go_wp2
      go_ret2
      exact z.out
theorem tE {p:Int} (a:Option Addr) (c:Nat) (f:l.length<=4611686018427387904) (e:Rd w a l) (d:∀x∈l,(PO lg x).wf): zF 210 #[.int lg p, .slice a l.length c] w (kt p l w):=by
 by_cases b:p<0\/p>1048576\/l.length≠a_ p.toNat*13;· exact I8 a c f b
 ·obtain ⟨n,rfl⟩:∃n:Nat,p= (n:Int):=⟨p.toNat,by omega⟩;rw [GH]at b;exact lS a c (by omega) (by omega) e d
theorem mH {o:Oper} {a:Act} (i:o.guard= none) (s x:Operand) (t:TypeId) (q:prog.underlying t= some (.slice 3)) (z:o.op= .call {callee:= .builtin .append,args:=#[s,x],argTypes:=#[t,t]}) (v:Value) (n:Nat) (l:zN) (r:a.eval s= v) (B:n= l.length) (C:n<=1099511627776) (c:w.ownsRow 0 3 1 v n (ag l)) (b:Nat) (y:Int) (p:a.eval x= (zS b 1 1)) (A:w.cell? (zD b 0)= some (zI y)) (h:∀v' w',w'.ownsRow 0 3 1 v' (n+1) (ag (l ++ [y]))->Fr (λk=>v.ownBlock= some k) w w'->(∀k,v'.ownBlock= some k->v.ownBlock= some k\/w.heap.size<=k)->wpList prog ops Q rest (a.put o.dst v') w'):wpList prog ops Q (o :: rest) a w:=by
 obtain ⟨m,hi,g,f,d⟩:=info_parts jD;refine nZ i s x t z 3 m _ 1 8 q hi g f d rfl (by decide) v n (ag l) r c ⟨b,0,none⟩ 1 1 [zI y] p rfl (λj u hj=>?_) (tK y) (by unfold maxLen;omega) (by omega) λv' w' h1 h2 h3=>?_;· cases j with
  | zero=>injection hj with hj;subst hj;rw [show (⟨b,0,none⟩:Addr).add 0= ⟨b,0,none⟩ from by unfold Addr.add;split<;>simp_all];exact A
  | succ j=>simp at hj
 ·refine h v' w' (by rw [ag,R0];exact h1) (Fr.jz (F:=λk=>v.ownBlock= some k) h2 λk e=>e) λk hk=>?_;rcases h3 with e|e;· exact .inl (by rw [<-e];exact hk)
  ·right;rw [hk]at e;injection e with e;omega
structure cA (w:World) (l:zN) (v:Value) (n:Nat) (wr:World):Prop where
 row:wr.ownsRow 0 3 1 v n (ag l)
 len:n= l.length
 new:∀k,v.ownBlock= some k->w.heap.size<=k
 below:zB w wr
theorem cA.nil (a:zB w wr):cA w [] (AF none 0 0) 0 wr:=⟨Ts _ _ _ _,rfl,λk hk=>(by cases hk),a⟩
theorem cA.own (h:cA w l v n wr) (y:Int):(wr.alloc (hV #[zI y] 3)).ownsRow 0 3 1 v n (ag l):= bc h.row λj hj=>PC _ _ _ (by obtain ⟨cur,a⟩:=bV h.row j hj;exact lt_of_heap a)
theorem cA.add {v':Value} (h:cA w l v n wr) (h1:w'.ownsRow 0 3 1 v' (n+1) (ag (l ++ [y]))) (g:Fr (λk=>v.ownBlock= some k) (wr.alloc (hV #[zI y] 3)) w') (f:∀k,v'.ownBlock= some k->v.ownBlock= some k\/(wr.alloc (hV #[zI y] 3)).heap.size<=k):cA w (l ++ [y]) v' (n+1) w':=by
 have b:zB wr (wr.alloc (hV #[zI y] 3)):=zA;have d:=(Fr.ax b).trans g (λ_ _ e=>e);have c:(wr.alloc (hV #[zI y] 3)).heap.size= wr.heap.size+1:=by simp
 have a:=h.below.size;refine ⟨h1,by rw [h.len];simp,λk hk=>?_,h.below.trans (d.below a λj hj=>h.new j hj)⟩;rcases f k hk with e|e;· exact h.new k e
 ·omega
def lv (l:zN) (w:World) (e:Ending) (w':World):Prop:=∃v,e= nf v/\Ints w' v l/\(∀k,v.ownBlock= some k->w.heap.size<=k)/\zB w w'
theorem cA.made (h:cA w l v n wr):lv l w (nf v) wr:=⟨v,rfl,by show Tt _ _ _ _ _ _ _;rw [<-h.len];exact h.row,h.new,h.below⟩
theorem yJ (p:Int) (w:World) (n:Nat) (b:n= if p>1048576 then 0 else p.toNat) (hp: -9223372036854775808<=p):zF 64 #[zI p] w λe w'=>lv (vw n (-1)) w e w':=by
 by_cases h:p>1048576;·
  rw [if_pos h]at b;subst b;have d:decide (1048576<p):=by simpa using h
  clear h;have G:=hT (cA.nil (G3 w.heap.size w));go_enter func64,ntmps64;go_wp2;go_ret;exact G.out.made
 ·rw [if_neg h]at b;have d:decide (1048576<p)= false:=by simpa using h
  have m:=hT b;have r:n<=1048576:=by omega
  clear b;go_enter func64,ntmps64;go_wp2;go_loopw [4,3] (λi s wr=>∃(k:Nat) (v:Value),i= zI k/\s= v/\k<=n/\Hid (cA w (vw k (-1)) v k wr)) (λi _ _=>n - (wo i).toNat);case atStart=>exact ⟨0,_,rfl,rfl,yb _,hT (cA.nil zR)⟩
  case round=>
   obtain ⟨k,v,rfl,rfl,hk,f⟩:=hrel;by_cases t:k<n;·
    have d1:decide ((k:Int) <p):=by have:=m.out;simp;omega
    obtain ⟨a,c,q⟩:=ck f.out.row;subst q;have g:=hT (f.out.own (-1));have u:=hT f.out.len;have o:lg.wrap ((k:Int) +1)= ((k+1:Nat):Int):=by rw [rr _ (by omega)];rfl
    go_wp2_with (at_builtin;refine mH rfl (.tmp 13) (.tmp 14) 69 underlying69 rfl (.slice a k c) k (vw k (-1)) rfl u.out (by omega) g.out wr.heap.size (-1) rfl (by simp) ?_;intro y w2 h1 l j;have x:=hT (f.out.add h1 l j);clear h1 l j);go_roundw;case rel=>exact ⟨k+1,_,rfl,rfl,by omega,by rw [VG];exact x⟩
    case measure=>simp [wo];omega
   ·obtain rfl:k= n:=by omega
    have d1:decide ((k:Int) <p)= false:=by have:=m.out;simp;omega
    go_wp2;go_ret;exact f.out.made
def jI (m:zN) (k:Int):Int:=match find m k with|some i=>(i:Int)|none=> -1
theorem tR {c:Nat} (h:Ints w (.slice a m.length c) m) (k:Int) (hm:m.length<=1048576): zF 70 #[.slice a m.length c,zI k] w (zQ (zI (jI m k)) w):=by
 have H:=hT h;obtain ⟨n,s⟩:=eX1 m.length;have u:=hT s;rw [<-s]at hm⊢;clear h s;go_enter func70,ntmps70;go_wp2;go_loopw [5] (λi wr=>∃j:Nat,i= zI j/\j<=n/\Hid (w= wr)/\Hid (∀x,x<j->m[x]?= some k->¬0<=k)) (λi _=>n - (wo i).toNat);case atStart=>exact ⟨0,rfl,yb _,hT rfl,hT λx o=>absurd o (by omega)⟩
 case round=>
  obtain ⟨j,rfl,D,hw,g⟩:=hrel;by_cases A:j<n;·
   obtain ⟨b,B,_,q,_⟩:=fi H.out j (by have:=u.out;omega);subst B;rw [hw.out]at q;have d:=Hp.iX m j (by have:=u.out;omega);obtain ⟨x,o⟩:=eX1 (Hp.at_ m j);rw [<-o]at q d;have v:=hT d;have z:lg.wrap ((j:Int) +1)= ((j+1:Nat):Int):=by rw [rr _ (by omega)];rfl
   clear o d;by_cases p:x= k;·
    subst p;have d3:(x == x):=by simp
    by_cases f:0<=x;·
     have C:decide (0<=x):=by simpa using f
     have l:Hid (jI m x= (j:Int)):=hT (by unfold jI;rw [iz.2 ⟨f,v.out,λi hi q=>g.out i hi q f⟩]);clear f;go_wp2;go_ret;exact ⟨by rw [l.out];rfl,hw.out⟩
    ·have C:decide (0<=x)= false:=by simpa using f
     have t:Hid (∀y,y<j+1->m[y]?= some x->¬0<=x):=hT λy _ _=>f;clear f;go_wp2;go_roundw;case rel=>exact ⟨j+1,by go_num,by omega,hw,t⟩
     case measure=>simp [wo];omega
   ·have d3:(x == k)= false:=by simpa using p
    have t:Hid (∀y,y<j+1->m[y]?= some k->¬0<=k):=hT λy r hm=>by
     by_cases e:y= j;· rw [e,v.out]at hm;injection hm with hm;exact absurd hm p
     ·exact g.out y (by omega) hm
    clear p;go_wp2;go_roundw;case rel=>exact ⟨j+1,by go_num,by omega,hw,t⟩
    case measure=>simp [wo];omega
  ·obtain rfl:j= n:=by omega
   have l:Hid (jI m k= -1):=hT (by unfold jI;rw [ic.2 λf hmem=>by obtain ⟨y,r⟩:=TF hmem;exact g.out y (by have:=(C2.1 r).1;have:=u.out;omega) r f]);go_wp2;go_ret;exact ⟨by rw [l.out];rfl,hw.out⟩
theorem Jf {c:Nat} (h:Ints w (.slice a m.length c) m) (hm:m.length<=1048576): zF 82 #[.slice a m.length c] w (zQ (zI ((used m).length:Int)) w):=by
 have H:=hT h;obtain ⟨n,l⟩:=eX1 m.length;have p:=hT l;rw [<-l]at hm⊢;clear h l;go_enter func82,ntmps82;go_wp2;go_loopw [4,3] (λi s wr=>∃j q:Nat,i= zI j/\s= zI q/\j<=n/\q<=j/\Hid (w= wr)/\Hid (q= (used (m.take j)).length)) (λi _ _=>n - (wo i).toNat);case atStart=>exact ⟨0,0,rfl,rfl,yb _,nm _,hT rfl,hT (by simp [used])⟩
 case round=>
  obtain ⟨j,q,rfl,rfl,B,y,hw,k⟩:=hrel;by_cases z:j<n;·
   obtain ⟨b,A,_,t,_⟩:=fi H.out j (by have:=p.out;omega);subst A;rw [hw.out]at t;have d:=Hp.iX m j (by have:=p.out;omega);obtain ⟨x,g⟩:=eX1 (Hp.at_ m j);rw [<-g]at t d;have v:lg.wrap ((j:Int) +1)= ((j+1:Nat):Int):=by rw [rr _ (by omega)];rfl
   have u:lg.wrap ((q:Int) +1)= ((q+1:Nat):Int):=by rw [rr _ (by omega)];rfl
   have e:=sD d;by_cases f:0<=x;·
    have d3:decide (0<=x):=by simpa using f
    have o:Hid (q+1= (used (m.take (j+1))).length):=hT (by rw [e,k.out];unfold used;rw [UP];simp [f]);clear g d e f;go_wp2;go_roundw;case rel=>exact ⟨j+1,q+1,by go_num,by go_num,by omega,by omega,hw,o⟩
    case measure=>simp [wo];omega
   ·have d3:decide (0<=x)= false:=by simpa using f
    have o:Hid (q= (used (m.take (j+1))).length):=hT (by rw [e,k.out];unfold used;rw [UP];simp [f]);clear g d e f;go_wp2;go_roundw;case rel=>exact ⟨j+1,q,by go_num,rfl,by omega,by omega,hw,o⟩
    case measure=>simp [wo];omega
  ·obtain rfl:j= n:=by omega
   have r:Hid (q= (used m).length):=hT (by rw [k.out,OP (by have:=p.out;omega)]);go_wp2;go_ret;exact ⟨by rw [<-r.out];rfl,hw.out⟩
def fu (v:Value) (m:zN) (w w':World):Prop:=Ints w' v m/\Fr (λk=>v.ownBlock= some k) w w'
theorem fu.refl (h:Ints w v m):fu v m w w:=⟨h,Fr.refl _ _⟩
variable{i:Nat}
theorem vj (h:find m k= some i):jI m k= (i:Int):=by unfold jI;rw [h]
theorem vk (h:find m k= none):jI m k= -1:=by unfold jI;rw [h]
theorem PJ {c:Nat} (h:Ints w (zS b m.length c) m) (i:Nat) (x:Int):fu (zS b m.length c) (m.set i x) w (w.setCell ⟨b,i,none⟩ (zI x)):=by obtain ⟨h1,a⟩:=ints_set h i x;exact ⟨by show Tt _ _ _ _ _ _ _;simpa using h1,a.mono λk _ e=>by rw [e];rfl⟩
theorem PM {c:Nat} (h:Ints w (.slice a m.length c) m) (k:Int) (hm:m.length<=1048576): zF 134 #[.slice a m.length c,zI k] w λe w'=>e= zV (zI (put m k).2.1) (zI (put m k).2.2)/\fu (.slice a m.length c) (put m k).1 w w':=by
 by_cases hk:0<=k/\k<=2147483646;·
  have d1:decide (k<0)= false:=by simp;omega
  have d2:decide (2147483646<k)= false:=by simp;omega
  have FI:=hT (tR h k hm);have H:=hT h;obtain ⟨n,l⟩:=eX1 m.length;have t:=hT l;cases hf:find m k with
   | some i => rw [vj hf]at FI;rw [wD hk hf];have d:=hT (fu.refl h);rw [<-l]at FI d⊢;clear hf h l hm hk;go_enter func134,ntmps134;go_wp2_with (go_at_call 70;refine zh FI.out ?_);go_ret2;exact ⟨rfl,d.out⟩
   | none =>
   rw [vk hf]at FI;have u:Hid (∀i,bn m= some i->put m k= (m.set i k,(i:Int),0)):=hT λi o=>pt hk hf o;have v:=hT λo=>pw hk hf o;obtain ⟨R,D⟩:=eX1 (put m k);rw [<-D]at u v⊢;rw [<-l]at FI hm⊢;clear hf h l hk D;go_enter func134,ntmps134;go_wp2_with (go_at_call 70;refine zh FI.out ?_);go_loopw [6] (λi wr=>∃j:Nat,i= zI j/\j<=n/\Hid (w= wr)/\Hid (∀x y,x<j->m[x]?= some y->0<=y)) (λi _=>n - (wo i).toNat);case atStart=>exact ⟨0,rfl,yb _,hT rfl,hT λx y q=>absurd q (by omega)⟩
   case round=>
    obtain ⟨j,rfl,M,hw,p⟩:=hrel;by_cases J:j<n;·
     obtain ⟨b,K,_,C,A⟩:=fi H.out j (by have:=t.out;omega);subst K;rw [hw.out]at C A;have g:=Hp.iX m j (by have:=t.out;omega);obtain ⟨x,q⟩:=eX1 (Hp.at_ m j);rw [<-q]at C g;have F:=hT g;have I:lg.wrap ((j:Int) +1)= ((j+1:Nat):Int):=by rw [rr _ (by omega)];rfl
     clear q g;by_cases f:x<0;·
      have G:decide (x<0):=by simpa using f
      have o:=jw.2 ⟨⟨x,F.out,f⟩,λy z r hz=>p.out y z r hz⟩;have d:Hid (R= (m.set j k,(j:Int),0)/\fu (zS b n c) (m.set j k) w (wr.setCell ⟨b,j,none⟩ (zI k))):=by refine hT ⟨u.out j o,?_⟩;have:=PJ H.out j k;rw [<-hw.out,t.out];exact this
      clear o f u v FI;go_wp2;go_ret2;obtain ⟨s,B⟩:=d.out;exact ⟨by rw [s];rfl,by rw [s];exact B⟩
     ·have G:decide (x<0)= false:=by simpa using f
      have L:Hid (∀y z,y<j+1->m[y]?= some z->0<=z):=hT λy z r hz=>by
       by_cases e:y= j;· rw [e,F.out]at hz;injection hz with hz;omega
       ·exact p.out y z (by omega) hz
      clear f;go_wp2;go_roundw;case rel=>exact ⟨j+1,by go_num,by omega,hw,L⟩
      case measure=>simp [wo];omega
    ·obtain rfl:j= n:=by omega
     have o:=wA.2 λx q=>by obtain ⟨y,r⟩:=TF q;exact p.out y x (by have:=(C2.1 r).1;have:=t.out;omega) r
     have d:Hid (R= (m,0,111)/\fu (.slice a j c) m w wr):=by refine hT ⟨v.out o,?_⟩;have:=fu.refl H.out;rw [<-hw.out,t.out];exact this
     clear o u v FI;go_wp2;go_ret2;obtain ⟨s,B⟩:=d.out;exact ⟨by rw [s];rfl,by rw [s];exact B⟩
 ·rw [pq hk];have d:=hT (fu.refl h);obtain ⟨n,l⟩:=eX1 m.length;rw [<-l]at d⊢;by_cases E:k<0;·
   have d1:decide (k<0):=by simpa using E
   clear h l hm hk;go_enter func134,ntmps134;go_wp2;go_ret2;exact ⟨rfl,d.out⟩
  ·have d1:decide (k<0)= false:=by simpa using E
   have d2:decide (2147483646<k):=by simp;omega
   clear h l hm hk;go_enter func134,ntmps134;go_wp2;go_ret2;exact ⟨rfl,d.out⟩
open Go.RowKit ae Go.Maps
def numOf:Value->Int
 | .int _ n=>n
 | _=>0
theorem _root_.Go.Proofs.YtchihokmgmchcaaGreat.ae.nd {B:Nat} (h:Below B w w1) (n:Nat):Below B w (w1.drewN n):=⟨h.os,h.tape,h.output,h.size,h.block⟩
theorem Q8 {b:Option Addr} {c d:Nat} {l:zX} (g:f_ w a l) (f:f_ w b l) (p:l.length<=9223372036854775806): zF 85 #[.slice a l.length c, .slice b l.length d] w (zJ (.bool true) w):=by
 have u:=hT g;have t:=hT f;obtain ⟨n,h⟩:=eX1 l.length;have v:=hT h;rw [<-h]at p⊢;have m:(((n:Nat):Int) != (n:Int))= false:=by simp
 clear g f h;go_enter func85,ntmps85;go_wp2;go_loopw [5] (λi wr=>∃k:Nat,k<=n/\i= zI k/\Hid (zB w wr)) (λi _=>n - (numOf i).toNat);case atStart=>exact ⟨0,yb _,rfl,hT zR⟩
 case round=>
  obtain ⟨k,hk,rfl,hw⟩:=hrel;by_cases o:k<n;·
   have e:k<l.length:=by have:=v.out;omega
   obtain ⟨C,B,h1,c1,c3⟩:=u.out.get hw.out e;obtain ⟨A,z,s,c2,c4⟩:=t.out.get hw.out e;subst h1 s;obtain ⟨x,g⟩:=eX1 (l[k].1);obtain ⟨y,f⟩:=eX1 (l[k].2);rw [<-g]at c1 c2;rw [<-f]at c3 c4;have r:(0:Int)<=(k:Int):=by omega
   have q:(k:Int) < (n:Int):=by omega
   have j:lg.wrap ((k:Int) +1)= ((k+1:Nat):Int):=by rw [rr _ (by omega)];rfl
   clear g f e;go_wp2;go_quiet (fail);go_wp2;go_roundw;case rel=>exact ⟨k+1,by omega,by go_num,hT (by first|exact ae.nd hw.out _|exact hw.out)⟩
   case measure=>simp [numOf];omega
  ·obtain rfl:k= n:=by omega
   go_wp2;go_ret;exact ⟨rfl,hw.out⟩
theorem Q9 {b:Option Addr} {c d:Nat} (e:Ints w (.slice a l.length c) l) (o:Ints w (.slice b l.length d) l) (u:l.length<=1099511627776): zF 29 #[.slice a l.length c, .slice b l.length d] w (zJ (.bool true) w):=by
 have D:=hT e;have C:=hT o;obtain ⟨n,h⟩:=eX1 l.length;have q:=hT h;rw [<-h]at u⊢;have s:(((n:Nat):Int) != (n:Int))= false:=by simp
 clear e o h;go_enter func29,ntmps29;go_wp2;go_loopw [5] (λi wr=>∃k:Nat,k<=n/\i= zI k/\Hid (zB w wr)) (λi _=>n - (wo i).toNat);case atStart=>exact ⟨0,yb _,rfl,hT zR⟩
 case round=>
  obtain ⟨k,hk,rfl,hw⟩:=hrel;by_cases t:k<n;·
   obtain ⟨B,h1,m,g,_⟩:=fi D.out k (by have:=q.out;omega);obtain ⟨A,z,j,f,_⟩:=fi C.out k (by have:=q.out;omega);subst h1 z;have c1:=(hw.out.cell (p:=(zD B k)) m).trans g;have c2:=(hw.out.cell (p:=(zD A k)) j).trans f;obtain ⟨x,e⟩:=eX1 (Hp.at_ l k);rw [<-e]at c1 c2;have y:(0:Int)<=(k:Int):=by omega
   have v:(k:Int) < (n:Int):=by omega
   have r:lg.wrap ((k:Int) +1)= ((k+1:Nat):Int):=by rw [rr _ (by omega)];rfl
   clear g f e;go_wp2;go_quiet (fail);go_wp2;go_roundw;case rel=>exact ⟨k+1,by omega,by go_num,hT (by first|exact ae.nd hw.out _|exact hw.out)⟩
   case measure=>simp [wo];omega
  ·obtain rfl:k= n:=by omega
   go_wp2;go_ret;exact ⟨rfl,hw.out⟩
def fO (m:zN) (la:Int) (i:Nat) (b:Int):Prop:= (b= -1/\∀(y:Nat) (x:Int),y<i->m[y]?= some x->x<=la)\/ ∃(q:Nat) (z:Int),b= (q:Int)/\m[q]?= some z/\la<z/\∀(y:Nat) (x:Int),y<i->m[y]?= some x->la<x->z<=x
theorem fO.start (m:zN) (la:Int):fO m la 0 (-1):= .inl ⟨rfl,λy x h=>absurd h (by omega)⟩
variable{la:Int}
theorem fO.none {b:Int} (h:fO m la i b) (c:m[i]?= some x) (g:x<=la):fO m la (i+1) b:=by
 rcases h with ⟨e,h⟩|⟨q,z,e,f,d,h⟩;·
  refine .inl ⟨e,λy x' hy hx'=>?_⟩;by_cases a:y= i;· rw [a,c]at hx';injection hx' with hx';omega
  ·exact h y x' (by omega) hx'
 ·refine .inr ⟨q,z,e,f,d,λy x' hy hx' hl'=>?_⟩;by_cases a:y= i;· rw [a,c]at hx';injection hx' with hx';omega
  ·exact h y x' (by omega) hx' hl'
theorem fO.first (h:fO m la i (-1)) (a:m[i]?= some x) (b:la<x):fO m la (i+1) (i:Int):=by
 rcases h with ⟨_,h⟩|⟨q,z,e,_⟩;·
  refine .inr ⟨i,x,rfl,a,b,λy x' hy hx' hl'=>?_⟩;by_cases c:y= i;· rw [c,a]at hx';injection hx' with hx';omega
  ·have:=h y x' (by omega) hx';omega
 ·omega
theorem fO.less {q:Nat} {z:Int} (h:fO m la i (q:Int)) (d:m[q]?= some z) (b:m[i]?= some x) (g:la<x) (f:x<z):fO m la (i+1) (i:Int):=by
 rcases h with ⟨e,_⟩|⟨c,k,e,a,l,h⟩;· omega
 ·have:c= q:=by omega
  subst this;rw [d]at a;injection a with a;refine .inr ⟨i,x,rfl,b,g,λy x' hy hx' hl'=>?_⟩;by_cases j:y= i;· rw [j,b]at hx';injection hx' with hx';omega
  ·have:=h y x' (by omega) hx' hl';omega
theorem fO.more {q:Nat} {z:Int} (h:fO m la i (q:Int)) (c:m[q]?= some z) (g:m[i]?= some x) (j:z<=x):fO m la (i+1) (q:Int):=by
 rcases h with ⟨e,_⟩|⟨b,d,e,a,f,h⟩;· omega
 ·have:b= q:=by omega
  subst this;rw [c]at a;injection a with a;refine .inr ⟨b,d,rfl,by rw [c,a],f,λy x' hy hx' hl'=>?_⟩;by_cases k:y= i;· rw [k,g]at hx';injection hx' with hx';omega
  ·exact h y x' (by omega) hx' hl'
def fa:Value->Nat
 | .slice _ k _=>k
 | _=>0
theorem Q_ {c:Nat} (h:Ints w (.slice a m.length c) m) (K:Ok m): zF 87 #[.slice a m.length c] w (mF (all m) w):=by
 have H:=hT h;have E:=hT K;have hm:=K.aS;obtain ⟨n,hn⟩:=eX1 m.length;have Q:=hT hn;rw [<-hn]at hm⊢;clear h hn K;go_enter func87,ntmps87;go_wp2;go_loopw [3,4] (λs la wr=>∃(r:Nat) (v:Value),s= v/\la= zI (last m r)/\r<=1048576/\Hid (r<=(keys m).length)/\Hid (gD w ((all m).take r) v r wr)) (λs _ _=>1048577 - fa s);case atStart=>exact ⟨0,_,rfl,rfl,by omega,hT (yb _),hT (gD.nil zR)⟩
 case round=>
  obtain ⟨r,v,rfl,rfl,bx,S,P⟩:=hrel;obtain ⟨va,vc,hv⟩:=ck P.out.row;subst hv;obtain ⟨la,L⟩:=eX1 (last m r);rw [<-L];have O:=hT L;clear L;go_wp2;go_loopw [6,5] (λi b wi=>∃(j:Nat) (t:Int),i= zI j/\b= zI t/\j<=n/\Hid (fO m la j t)/\Hid (zB wr wi)) (λi _ _=>n - (wo i).toNat);case atStart=>exact ⟨0, -1,rfl,rfl,yb _,hT (fO.start m la),hT zR⟩
  case round=>
   obtain ⟨j,t,rfl,rfl,hj,I,hw⟩:=hrel;by_cases bG:j<n;·
    have bS:(0:Int)<=(j:Int):=by omega
    have bP:(j:Int) < (n:Int):=by omega
    obtain ⟨Y,W,D,V,_⟩:=fi H.out j (by have:=Q.out;omega);subst W;have M:=P.out.below.trans (hw.out.mono P.out.below.size);have c1:=(M.cell (p:=(zD Y j)) D).trans V;have B:=Hp.iX m j (by have:=Q.out;omega);obtain ⟨x,hx⟩:=eX1 (Hp.at_ m j);rw [<-hx]at c1 B;have Z:=hT B;have bo:=hT M;have bt:lg.wrap ((j:Int) +1)= ((j+1:Nat):Int):=by rw [rr _ (by omega)];rfl
    clear hx B V M;by_cases k:la<x;·
     have t3:decide (la<x):=by simpa using k
     by_cases g:t<0;·
      have t4:decide (t<0):=by simpa using g
      have ba:t= -1:=by
       rcases I.out with ⟨e,_⟩|⟨q,z,e,_⟩;· exact e
       ·omega
      subst ba;have N:=hT (I.out.first Z.out k);clear g k;go_wp2;go_quiet (fail);go_wp2;go_roundw;case rel=>exact ⟨j+1,(j:Int),by go_num,rfl,by omega,N,hT (by first|exact ae.nd hw.out _|exact hw.out)⟩
      case measure=>simp [wo];omega
     ·have t4:decide (t<0)= false:=by simpa using g
      obtain ⟨q,z,J,f⟩:∃(q:Nat) (z:Int),t= (q:Int)/\m[q]?= some z:=by
       rcases I.out with ⟨e,_⟩|⟨q,z,e,J,_⟩;· omega
       ·exact ⟨q,z,e,J⟩
      subst J;have o:=(C2.1 f).1;obtain ⟨_,W,_,A,_⟩:=fi H.out q o;cases W;have c2:=(bo.out.cell (p:=(zD Y q)) D).trans A;have d:=Hp.iX m q o;rw [f]at d;injection d with d;rw [<-d]at c2;have X:=hT f;have ao:(0:Int)<=(q:Int):=by omega
      have af:(q:Int) < (n:Int):=by have:=Q.out;omega
      clear f o A d g;by_cases u:x<z;·
       have t5:decide (x<z):=by simpa using u
       have N:=hT (I.out.less X.out Z.out k u);clear u k;go_wp2;go_quiet (fail);go_wp2;go_roundw;case rel=>exact ⟨j+1,(j:Int),by go_num,rfl,by omega,N,hT (by first|exact ae.nd hw.out _|exact hw.out)⟩
       case measure=>simp [wo];omega
      ·have t5:decide (x<z)= false:=by simpa using u
       have N:=hT (I.out.more X.out Z.out (by omega));clear u k;go_wp2;go_quiet (fail);go_wp2;go_roundw;case rel=>exact ⟨j+1,(q:Int),by go_num,rfl,by omega,N,hT (by first|exact ae.nd hw.out _|exact hw.out)⟩
       case measure=>simp [wo];omega
    ·have t3:decide (la<x)= false:=by simpa using k
     have N:=hT (I.out.none Z.out (by omega));clear k;go_wp2;go_quiet (fail);go_wp2;go_roundw;case rel=>exact ⟨j+1,t,by go_num,rfl,by omega,N,hT (by first|exact ae.nd hw.out _|exact hw.out)⟩
     case measure=>simp [wo];omega
   ·obtain rfl:j= n:=by omega
    have C:=hT (P.out.next hw.out);by_cases g:t<0;·
     have t4:decide (t<0):=by simpa using g
     have hr:r= (keys m).length:=by
      refine Ef E.out S.out λy hy=>?_;obtain ⟨i,hi⟩:=TF hy;rw [<-O.out];rcases I.out with ⟨_,h⟩|⟨q,z,e,_⟩;· exact h i y (by have:=(C2.1 hi).1;have:=Q.out;omega) hi
      ·omega
     have bs:=hT (by have:=C.out;rw [OP (by rw [mh,<-ny];omega)]at this;exact this.made);clear g hr;go_wp2;go_ret;exact bs.out
    ·have t4:decide (t<0)= false:=by simpa using g
     obtain ⟨q,z,J,f,U,G⟩:∃(q:Nat) (z:Int),t= (q:Int)/\m[q]?= some z/\la<z/\∀(y:Nat) (x:Int),y<j->m[y]?= some x->la<x->z<=x:=by
      rcases I.out with ⟨e,_⟩|⟨q,z,e,J⟩;· omega
      ·exact ⟨q,z,e,J⟩
     subst J;have o:=(C2.1 f).1;obtain ⟨Y,W,D,A,_⟩:=fi H.out q o;subst W;have c2:=((P.out.below.trans (hw.out.mono P.out.below.size)).cell (p:=(zD Y q)) D).trans A;have d:=Hp.iX m q o;rw [f]at d;injection d with d;rw [<-d]at c2;have ao:(0:Int)<=(q:Int):=by omega
     have af:(q:Int) < (j:Int):=by have:=Q.out;omega
     have l:=Eg E.out S.out (P1 f) (by rw [<-O.out];exact U) λy hy hly=>by obtain ⟨i,hi⟩:=TF hy;exact G i y (by have:=(C2.1 hi).1;have:=Q.out;omega) hi (by rw [O.out];exact hly)
     have R:=(kU.1 (P1 l)).2;have bm:Hid ((all m).take (r+1)= (all m).take r ++ [(z,(q:Int))]):=hT (by
      rw [Wy];unfold all;rw [RI,l];have:entry m z= (z,(q:Int)):=by unfold entry;rw [E.out.find R f];rfl
      simp [this]);have bg:=hT (Ed l);have F:r+1<=(keys m).length:=(C2.1 l).1;have bf:=hT F;have aw:(keys m).length<=1048576:=by rw [ny];have:=mf m;have:=E.out.aS;omega
     have T:r+1<=1048576:=by omega
     have bb:=hT (C.out.own z (q:Int));have bl:=hT C.out.len;clear f U G o A d l R F aw g;go_wp2_with (at_builtin;refine yw rfl (.tmp 42) (.tmp 46) rfl (.slice va r vc) r ((all m).take r) rfl bl.out (by omega) bb.out _ z (q:Int) rfl (heap_alloc_new _ _) ?_;intro v' w4 h1 h2 h3;have G4:=hT (C.out.add h1 h2 h3);clear h1 h2 h3);obtain ⟨xa,xc,ad⟩:=ck G4.out.row;subst ad;refine ⟨⟨r+1,_,rfl,by rw [bg.out],T,bf,by rw [bm.out];exact G4⟩,?_⟩;simp [fa];omega
end Tb
end
end Go.Proofs.YtchihokmgmchcaaGreat
