/- Sne2, of the proof -/
import Derived.Test.YtchihokmgmchcaaGreatSrSna2
import Derived.Test.YtchihokmgmchcaaGreatSq0K
set_option linter.unusedVariables false
set_option maxRecDepth 100000
set_option maxHeartbeats 4000000
namespace Go.Proofs.YtchihokmgmchcaaGreat
open Go.Proofs.Tryz
open Nat renaming le_refl->nm,le_trans->A6,lt_irrefl->TL,lt_of_lt_of_le->ti,mul_zero->TW,sub_self->TK,zero_le->yb
open Go.Value renaming int->Tr,pointer->xb
open Go.Obj renaming cells->hV
open Go.Lib renaming hid->hT,intOf->wo
open Classical renaming byContradiction->T7
open Go.IntKind renaming i64->lg
open Go.IntWalk renaming i64_in->rr
open List renaming append_assoc->NR,drop_drop->Uu,drop_zero->TA,getD_eq_getElem?_getD->FU,getElem?_eq_getElem->C1,getElem?_eq_none->Tv,getElem?_map->RI,getElem?_range->Vl,getElem?_toArray->Ud,length_append->DC,length_map->PN,length_range->Tw,length_replicate->Tq,length_take->E4,map_append->R0,mem_append->RR,mem_append_left->We,mem_filter->Vd,mem_map->Tp,mem_range->RP,mem_singleton->H5,pairwise_append->Xh,range->MR,range_succ->TO,replicate->vw,sum_append->Vb,take_of_length_le->OP
open _root_.Array renaming getElem?_eq_some_iff->DN,getElem?_setIfInBounds_ne->VN
open Go.Ending renaming returned->nf
open Int renaming toNat_natCast->GH
open Bool renaming and_false->UX,false_and->T5
open Go.World renaming cell?_setCell_other->VM
section
namespace Se
open Go.RowKit
def En.bu (E:En) (x:Sn):So.Pa:=⟨E.a,E.n,E.g,x.st,x.ln,Em.room E.g x.ln,x.gen⟩
def Mk (B:Eb) (E:En) (x:Sn) (st:Dm.St) (bq:Nat) (w0 w1:World):Prop:=∃B1 b,b.q= bq/\Ek w1 B1 E st/\br B E B1 E w0 w1/\lG w1 B1 E b (E.bu x) x.M.inv st x.M.aK/\∀k,b.fp k->B.fp E k\/w0.heap.size<=k
variable{B:Eb}{E:En}{x:Sn}{st:Dm.St}{bq:Nat}{w:World}
theorem Mk.low {w':World} (h:Mk B E x st bq w w'):w'.cell? (zD B.q 0)= some (zI E.a)/\w'.cell? (zD B.q 1)= some (zI E.n)/\w'.cell? (zD B.q 2)= some (zI E.g)/\ w'.cell? (zD B.q 3)= some (zP B.d.p):=by obtain ⟨e,b,_,hk,c,_⟩:=h;exact ai.low ⟨e,hk,c⟩
theorem Mk.box {w':World} (h:Mk B E x st bq w w') {k:Nat} (hk:k<w.heap.size) (d:¬B.fp E k) (j:Nat):w'.cell? (zD k j)= w.cell? (zD k j):=by obtain ⟨e,b,_,a,c,_⟩:=h;exact ai.box ⟨e,a,c⟩ hk d j
theorem Mk.below {w0 w':World} (a:zB w0 w) (h:Mk B E x st bq w w'):Mk B E x st bq w0 w':=by obtain ⟨i,b,h1,g,f,e,d⟩:=h;exact ⟨i,b,h1,g,(br.ax a).trans f,e,λk hk=>(d k hk).imp id λc=>A6 a.size c⟩
theorem Oz (h:Ek w B E st) {x:Sn} (hp:(E.bu x).Ok) (r:x.M= So.Ms.new (E.bu x)) (m:st.S.length= E.a) (o:st.P.length<=137438953472) (y:(So.aa st (So.cy (E.bu x))).2= 0): zF 114 #[zP B.d.p, zO E.a E.n E.g, zM x.st x.ln,zU x.gen] w λe w'=>∃bq,e= zV (zP bq) (zI 0)/\Mk B E x (So.aa st (So.cy (E.bu x))).1 bq w w':=by
 refine (So.rC hp h.dk m o).mono ?_;rintro e w' (⟨_,b,rfl,h1,v,f,u,t,s⟩|⟨c,_⟩);· refine ⟨b.q,rfl,?_⟩;obtain ⟨z,l,j,i⟩:=h.new h1 v f u t s (So.gL h.dk.ok _).2;refine ⟨z,b,rfl,l,j,?_,λk hk=>(f k hk).imp (λc=> .inr (.inr (.inl c))) id⟩;rw [r];exact i
 ·exact absurd y c
theorem OA (h:Ek w B E st) {x:Sn} (hp:(E.bu x).Ok) (b:st.S.length= E.a) (f:st.P.length<=137438953472) (j:(So.aa st (So.cy (E.bu x))).2≠0): zF 114 #[zP B.d.p, zO E.a E.n E.g, zM x.st x.ln,zU x.gen] w λe w'=>e= zV (xb none) (zI (So.aa st (So.cy (E.bu x))).2)/\ai B E E (So.aa st (So.cy (E.bu x))).1 w w':=by
 refine (So.rC hp h.dk b f).mono ?_;rintro e w' (⟨c,_⟩|⟨_,h1,i⟩);· exact absurd c j
 ·exact ⟨h1,h.cP i (So.gL h.dk.ok _).2⟩
def cC (E:En) (i:Nat) (x:Sn):List So.Op:=So.cy (E.bu x) ++ bM i x
def lJ (B:Eb) (E:En) (st:Dm.St) (i:Nat) (x:Sn) (w:World) (e:Ending) (w':World):Prop:= e= aP (So.aa st (cC E i x)).2/\∃E',ai B E E' (So.aa st (cC E i x)).1 w w'/\((So.aa st (cC E i x)).2= 0->E'= E.set i x)
theorem OB (h:Ek w B E st) {i:Nat} (id:Int) {x:Sn} (hp:(E.bu x).Ok) (v:st.S.length= E.a) (A:st.P.length<=137438953472) (f:(So.aa st (So.cy (E.bu x))).2≠0): zF 49 #[zP B.q,zI id,Sv (x.t:Int) (x.st:Int) (x.ln:Int) x.gen] w (lJ B E st i x w):=by
 obtain ⟨o,b⟩:=eX2 (w.alloc (hV #[zI x.t,zI x.st,zI x.ln,zU x.gen] 68));obtain ⟨l,z⟩:=kE w _ _ _ _ o b;have F:Hid (¬B.fp E w.heap.size):=hT λe=>TL _ (h.lt _ e);have s:Hid (w.heap.size<o.heap.size):=hT (by rw [<-b];simp);have C:=hT (λw1 (hb:zB o w1)=>OA (x:=x) (h.below (l.trans (hb.mono l.size))) hp v A f);have G:Hid (∀w1,zB o w1->zB w w1):=hT λw1 hb=>l.trans (hb.mono l.size);have k:Hid (∀w1,ai B E E (So.aa st (So.cy (E.bu x))).1 w w1->lJ B E st i x w (aB (So.aa st (So.cy (E.bu x))).2) w1):=hT λw1 hw=>by unfold lJ cC;rw [So.ke _ f];exact ⟨(aX f).symm,E,hw,λc=>absurd c f⟩
 obtain ⟨O,b1,b2,b3⟩:=z o zR;obtain ⟨Q,a1,a2,a3,_⟩:=(h.head.below l).low;obtain ⟨y,u⟩:=eX1 ((So.aa st (So.cy (E.bu x))).2);rw [<-u]at C k f;have NE:=hT (λw1=>J7 (xb none) y f w1);unfold aB at NE k;unfold Sv;clear h hp v A f l z u;go_enter func49,ntmps49;go_upto_region 1 with fail;clear b;go_region_held (λw'=>w'.cell? (zD B.q 0)= some (zI E.a)/\w'.cell? (zD B.q 1)= some (zI E.n)/\w'.cell? (zD B.q 2)= some (zI E.g)/\w'.cell? (zD B.q 3)= some (zP B.d.p)/\ w'.cell? (zz w 1)= some (zI x.st)/\w'.cell? (zz w 2)= some (zI x.ln)/\w'.cell? (zz w 3)= some (zU x.gen)) (first|(refine ⟨?_,?_,?_,?_,?_,?_,?_⟩<;>assumption)|go_keep) (first
  | (go_at_call 114;refine zg (C.out _ zR.drew) λw1 hw=>?_;have D:=hT (hw.below (G.out _ zR.drew));obtain ⟨N,M,L,K⟩:=hw.low;have r:∀j,w1.cell? (zz w j)= _:=hw.box s.out F.out;have J:=(r 1).trans b1;have I:=(r 2).trans b2;have H:=(r 3).trans b3;clear hw r)
  | (go_at_call 113;refine zh (NE.out _) ?_;refine T7 λhn=>?_;have m:=hn ⟨rfl,k.out _ D.out⟩;clear hn;refine So.jg (by assumption) m {tmps:=#[],defers:= []} w1 ?_));exact m.elim
theorem OC (h:Ek w B E st) (hu:Um.aj (E.a:Int) (E.n:Int) (E.g:Int)) {i:Nat} (hi:i<16) (id:Int) (hid:id= (i:Int) +1) {x:Sn} (hx:x.t≠0) (L:Tm.bp (x.t:Int) (x.st:Int) (x.ln:Int) x.gen) (hp:(E.bu x).Ok) (hM:x.M= So.Ms.new (E.bu x)) (hl:st.S.length= E.a) (hP:st.P.length≤137438953472) (V:(So.aa st (So.cy (E.bu x))).2= 0)
    (N:(So.aa st (So.cy (E.bu x))).1.P.length≤137438953472):
    zF 49 #[zP B.q,zI id,Sv (x.t:Int) (x.st:Int) (x.ln:Int) x.gen] w (lJ B E st i x w):=by
  obtain ⟨O,J⟩:=eX2 (w.alloc (hV #[zI x.t,zI x.st,zI x.ln,zU x.gen] 68))
  obtain ⟨K,hc⟩:=kE w _ _ _ _ O J
  have HN:Hid (¬B.fp E w.heap.size):=hT fun e=>TL _ (h.lt _ e)
  have X:Hid (w.heap.size<O.heap.size):=hT (by rw [←J];simp)
  have Y:=hT (fun w1 (hb:zB O w1)=>Oz (x:=x) (h.below (K.trans (hb.mono K.size))) hp hM hl hP V)
  have HD:Hid (∀w1,zB O w1→zB w w1):=hT fun w1 hb=>K.trans (hb.mono K.size)
  have ad:lg.wrap (id - 1)= (i:Int):=by rw [rr _ (by omega)];omega
  have ab:(i:Int) <16:=by omega
  obtain ⟨st1,C⟩:=eX1 ((So.aa st (So.cy (E.bu x))).1)
  rw [←C]at Y N
  have ER:Hid (So.aa st (cC E i x)= So.aa st1 (bM i x)):=hT (by unfold cC;rw [So.ia _ V,C])
  have R:Hid (∀w1 F,Ek w1 F E st1→zF 115 #[zP F.q,zI id,Sv (x.t:Int) (x.st:Int) (x.ln:Int) x.gen] w1 (oG F E st1 i x w1)):=hT fun w1 F hk=>AJ hk hu hi id hid x L hp.mn (by omega)
  have HX:=hT hx
  unfold lJ
  rw [ER.out]
  unfold Sv oG at R
  obtain ⟨ops,G⟩:=eX1 (bM i x)
  rw [←G]at R⊢
  obtain ⟨b0,b1,b2,b3⟩:=hc O zR
  obtain ⟨a0,a1,a2,a3,_⟩:=(h.head.below K).low
  have NE:=hT (fun v w1=>J6 v w1)
  unfold Sv
  clear h hp hl hP V K hc C N ER G L hx hM hu hid
  go_enter func49,ntmps49
  go_upto_region 1 with fail
  clear J
  go_region_held3 (fun w'=>w'.cell? (zD B.q 0)= some (zI E.a)∧w'.cell? (zD B.q 1)= some (zI E.n)∧w'.cell? (zD B.q 2)= some (zI E.g)∧w'.cell? (zD B.q 3)= some (zP B.d.p)∧
      w'.cell? (zz w 1)= some (zI x.st)∧w'.cell? (zz w 2)= some (zI x.ln)∧w'.cell? (zz w 3)= some (zU x.gen))
    (first|(refine ⟨?_,?_,?_,?_,?_,?_,?_⟩<;>assumption)|go_keep)
    (first
      | (go_at_call 114;refine (Y.out _ zR.drew).mono ?_;rintro e w1 ⟨bq,rfl,hw⟩;have W5:=hT (hw.below (HD.out _ zR.drew));obtain ⟨y0,y1,y2,y3⟩:=hw.low;have Q:∀j,w1.cell? (zz w j)= _:=hw.box X.out HN.out;have z0:=(Q 0).trans b0;have z1:=(Q 1).trans b1;have z2:=(Q 2).trans b2;have z3:=(Q 3).trans b3;clear hw Q)
      | (go_at_call 113;refine zh (NE.out _ _) ?_))
  obtain ⟨F,b,z,u,f,r,l⟩:=W5.out
  have W:=R.out w1 F u
  rw [f.q]at W
  have S2:=hT W
  have K1:Hid (Ek w1 F E st1∧br B E F E w w1∧lG w1 F E b (E.bu x) x.M.inv st1 x.M.aK∧(∀k,b.fp k→B.fp E k∨w.heap.size≤k)∧b.q= bq):=hT ⟨u,f,r,l,z⟩
  clear W u f r l z Y R a0 a1 a2 a3 b0 b1 b2 b3
  go_wp2_with fail
  refine S2.out.mono ?_
  rintro e w2 ⟨rfl,Z,w3,s,o,A,I⟩
  by_cases h1:(So.aa st1 ops).2= 0
  · have m:=A h1
    obtain ⟨u,f,r,l,z⟩:=K1.out
    have H:Z.q= B.q:=by rw [o.q,f.q]
    have hd:=s.head.ll hi s.len x
    rw [←m]at hd
    have hp:=hd.ptr hi
    have hf:=hd.ig (69+i)
    rw [H]at hp hf
    have D:Hid ((So.aa st1 ops).2= 0∧ai B E (E.set i x) (So.aa st1 ops).1 w (w2.setCell ⟨B.q,69+i,none⟩ (zP bq))):=hT ⟨h1,by
      have U:=r.step s o
      have:=s.came (f.trans o) hi HX.out U (fun k hk=>by
        rcases hk with e|hk|hk
        · exact l k (.inl e)
        · exact (f.trans o).fp k (.inr (.inr (.inl hk)))
        · exact l k (.inr (.inr hk)))
      rw [m,←H,←z]
      exact this⟩
    rw [h1,cF]
    generalize Z.ptr i= pv at hp
    clear A I s o hd m H h1 u f r l z
    go_wp2_with fail
    go_end0
    exact ⟨by rw [D.out.1];rfl,_,D.out.2,fun _=>rfl⟩
  · have m:=I h1
    obtain ⟨u,f,r,l,z⟩:=K1.out
    have D:Hid (aB (So.aa st1 ops).2= aP (So.aa st1 ops).2∧∃E',ai B E E' (So.aa st1 ops).1 w w2∧((So.aa st1 ops).2= 0→E'= E.set i x)):=hT ⟨(aX h1).symm,E,⟨Z,by rw [m];exact s,by rw [m];exact f.trans o⟩,fun c=>absurd c h1⟩
    rw [aX h1]
    clear A I s o m u f r l z
    obtain ⟨y,T⟩:=eX1 ((So.aa st1 ops).2)
    have HY:=hT T
    rw [←T]
    clear T h1
    unfold aB at D⊢
    go_wp2
    refine ⟨rfl,?_⟩
    rw [HY.out]
    exact D.out
theorem OD (h:Ek w B E st) (hu:Um.aj (E.a:Int) (E.n:Int) (E.g:Int)) {i:Nat} (hi:i<16) (id:Int) (c:id= (i:Int) +1) {x:Sn} (k:x.t≠0) (b:Tm.bp (x.t:Int) (x.st:Int) (x.ln:Int) x.gen) (hp:(E.bu x).Ok) (l:x.M= So.Ms.new (E.bu x)) (f:st.S.length= E.a) (j:st.P.length<=137438953472) (d:(So.aa st (So.cy (E.bu x))).2= 0->(So.aa st (So.cy (E.bu x))).1.P.length<=137438953472): zF 49 #[zP B.q,zI id,Sv (x.t:Int) (x.st:Int) (x.ln:Int) x.gen] w (lJ B E st i x w):=by
 by_cases e:(So.aa st (So.cy (E.bu x))).2= 0;· exact OC h hu hi id c k b hp l f j e (d e)
 ·exact OB h id hp f j e
theorem OJ {i:Nat} {t a n:Int} {gen:Nat} {x:Nat} {d:zL} (h:So.Wr [dh i t a n gen] x d):x= 1+i/\d= Tm.ah t a n gen:=by
 obtain ⟨k,c,hm,h1,e,b⟩:=h;unfold dh at hm;injection H5.1 hm with e1 e2;subst e1 e2;rw [Tm.bD]at e;obtain rfl:x= 1+i:=by omega
 refine ⟨rfl,?_⟩;rw [b,TK,TW,TA,OP (by rw [Tm.bD];exact nm _)]
theorem OL (i:Nat) (t a n:Int) (gen:Nat):So.Wr [dh i t a n gen] (1+i) (Tm.ah t a n gen):= ⟨1+i,_,H5.2 rfl,nm _,by rw [Tm.bD];omega,by rw [TK,TW,TA,OP (by rw [Tm.bD];exact nm _)]⟩
theorem oV {i:Nat} {y:Nat} {d:zL} (h:So.Wr (bM i x) y d):y= 1+i/\d= Tm.ah (x.t:Int) (x.st:Int) (x.ln:Int) x.gen:=OJ (So.fF (a:= [dh i _ _ _ _]) h)
theorem Bs (i:Nat) (x:Sn):So.Wr (bM i x) (1+i) (Tm.ah (x.t:Int) (x.st:Int) (x.ln:Int) x.gen):=So.k_ (a:= [dh i _ _ _ _]) (b:= [.fl]) (OL i _ _ _ _)
theorem Bt (b:Form E) {i:Nat} (hi:i<16) (x:Sn):∀o∈bM i x,So.Good E.a o:=by have:=b.small;refine So.nP (a:= [dh i _ _ _ _]) λo ho=>?_;rw [H5.1 ho];refine ⟨by rw [Tm.bD],?_⟩;rw [Tm.bD];omega
structure mY (E:En) (i:Nat) (x:Sn):Prop where
 ok:Tm.bp (x.t:Int) (x.st:Int) (x.ln:Int) x.gen= true
 gen:x.gen<4294967296
 pa:x.t≠0->(E.bu x).Ok
 fit:x.t≠0->So.Fit (E.bu x) x.M
 apart:x.t≠0->∀j,j<16->j≠i->(E.one j).t≠0->x.st+x.ln<=(E.one j).st\/(E.one j).st+ (E.one j).ln<=x.st
 two:x.t= 2->∀j,j<16->j≠i->(E.one j).t≠2
 val:x.t= 2->x.M.inv= false
theorem Bu (a:E.S.length= 16) {i:Nat} (hi:i<16) (x:Sn) (j:Nat):(E.set i x).pa j= if i= j then E.bu x else E.pa j:=by unfold En.pa;rw [En.one_set (by omega)];split<;>rfl
theorem Form.set (h:Form E) {i:Nat} (hi:i<16) {x:Sn} (b:mY E i x):Form (E.set i x):=by
 have a:=λj=>En.one_set (E:=E) (i:=i) (by rw [h.len];exact hi) x j;have d:=λj=>Bu h.len hi x j;refine ⟨h.aj,(En.mv _ _ _).trans h.len,λj hj=>?_,λj hj=>?_,λj hj h0=>?_,λj hj h0=>?_,λj k hj hk hjk h1 h2=>?_,λj k hj hk h1 h2=>?_,λj hj h1=>?_⟩;·
  rw [a j];split;· exact b.ok
  ·exact h.slot j hj
 ·rw [a j];split;· exact b.gen
  ·exact h.gen j hj
 ·rw [a j]at h0;rw [d j];split;· rename_i e;rw [if_pos e]at h0;exact b.pa h0
  ·rename_i e;rw [if_neg e]at h0;exact h.pa j hj h0
 ·rw [a j]at h0⊢;rw [d j];split;· rename_i e;rw [if_pos e]at h0;exact b.fit h0
  ·rename_i e;rw [if_neg e]at h0;exact h.fit j hj h0
 ·rw [a j]at h1⊢;rw [a k]at h2⊢;by_cases e:i= j;· rw [if_pos e]at h1⊢;rw [if_neg (by omega)]at h2⊢;exact b.apart h1 k hk (by omega) h2
  ·rw [if_neg e]at h1⊢;by_cases c:i= k;· rw [if_pos c]at h2⊢;exact (b.apart h2 j hj (by omega) h1).symm
   ·rw [if_neg c]at h2⊢;exact h.apart j k hj hk hjk h1 h2
 ·rw [a j]at h1;rw [a k]at h2;by_cases e:i= j;·
   rw [if_pos e]at h1;by_cases c:i= k;· omega
   ·rw [if_neg c]at h2;exact absurd h2 (b.two h1 k hk (by omega))
  ·rw [if_neg e]at h1;by_cases c:i= k;· rw [if_pos c]at h2;exact absurd h1 (b.two h2 j hj (by omega))
   ·rw [if_neg c]at h2;exact h.two j k hj hk h1 h2
 ·rw [a j]at h1⊢;split;· rename_i e;rw [if_pos e]at h1;exact b.val h1
  ·rename_i e;rw [if_neg e]at h1;exact h.val j hj h1
theorem aD.vg (h:aD E st) {i:Nat} (hi:i<16) {x:Sn} (g:mY E i x) {f':Nat->List UInt8} {st':Dm.St} (m:Dm.Ok st') (q:st'.S.length= E.a) (s:So.gu st') (u:st'.P= []) (r:Dm.one st'= f') (h1:f' (1+i)= Tm.ah (x.t:Int) (x.st:Int) (x.ln:Int) x.gen) (p:x.t≠0->So.fg (E.bu x) f' x.M) (o:∀y,y≠1+i->(x.t≠0->¬So.cW (E.bu x) y)->f' y= Dm.one st y):aD (E.set i x) st':=by
 have v:=h.form.set hi g;have f:=λj=>En.one_set (E:=E) (i:=i) (by rw [h.form.len];exact hi) x j;have k:=λj=>Bu h.form.len hi x j;have d:∀y,x.t≠0->So.cW (E.bu x) y->17+E.n<=y:=λy h0 b=>by have l:17+E.n<=(E.bu x).st:=(g.pa h0).low;have:=b.1;omega
 refine ⟨v,m,q,s,?_,by rw [u];intro y b;cases b⟩;rw [r];refine ⟨?_,λj hj=>?_,λj hj h0=>?_⟩;· rw [o 0 (by omega) λh0 b=>by have:=d 0 h0 b;omega];exact h.gW.sup
 ·rw [f j];split;· rename_i e;subst e;exact h1
  ·rename_i e;rw [o (1+j) (by omega) λh0 b=>by have:=d _ h0 b;omega];exact h.gW.slot j hj
 ·rw [f j]at h0⊢;rw [k j];split;· rename_i e;rw [if_pos e]at h0;exact p h0
  ·rename_i e;rw [if_neg e]at h0;refine (h.gW.ed j hj h0).lh (h.form.pa j hj h0) (h.form.fit j hj h0) λy b=>o y (λc=>by have:=(h.form.low hj h0 b).1;omega) λhx0 hyx=>?_;have a1:(E.one j).st<=y:=b.1;have a2:y< (E.one j).st+ (E.one j).ln:=b.2;have b1:x.st<=y:=hyx.1;have b2:y<x.st+x.ln:=hyx.2;rcases g.apart hx0 j hj (λc=>e c.symm) h0 with c|c<;>omega
theorem aD.ll (h:aD E st) {i:Nat} (hi:i<16) {x:Sn} (b:mY E i x) (f:x.t≠0->So.fg (E.bu x) (Dm.one st) x.M): (So.aa st (bM i x)).2= 0/\aD (E.set i x) (So.aa st (bM i x)).1/\(So.aa st (bM i x)).1.P= []/\∀y,y≠1+i->Dm.one (So.aa st (bM i x)).1 y= Dm.one st y:=by
 have c:=So.kf h.ok h.dE (ops:=bM i x) (λo ho=>by rw [h.dK];exact Bt h.form hi x o ho);have hk:=So.gL h.ok (bM i x);have e:(So.aa st (bM i x)).1.P= []:=So.lX (ops:= [dh i _ _ _ _]) c.1;have a:=λy=>So.lW h.ok c.1 y;have off:∀y,y≠1+i->Dm.one (So.aa st (bM i x)).1 y= Dm.one st y:=λy hy=>by rw [a y];exact So.fR _ λd hw=>hy (oV hw).1
 refine ⟨c.1,h.vg hi b hk.1 (hk.2.trans h.dK) c.2 e rfl ?_ (λh0=>?_) (λy hy _=>off y hy),e,off⟩;· rw [a];exact So.iW _ (Bs i x) λd hd=>(oV hd).2
 ·refine (f h0).lh (b.pa h0) (b.fit h0) λy hy=>off y ?_;have l:17+E.n<=(E.bu x).st:=(b.pa h0).low;have:=hy.1;omega
theorem OM (h:Form E) {i:Nat} (hi:i<16):mY E i (E.one i).gone:=by refine ⟨?_,h.gen i hi,λc=>absurd rfl c,λc=>absurd rfl c,λc=>absurd rfl c,λc=>(by cases c),λc=>(by cases c)⟩;show Tm.bp (((0:Nat):Int)) ((0:Nat):Int) ((0:Nat):Int) _= true;rw [show ((0:Nat):Int)= 0 from rfl,Tm.mL];decide
theorem aD.gone (h:aD E st) {i:Nat} (hi:i<16): (So.aa st (bM i (E.one i).gone)).2= 0/\aD (E.set i (E.one i).gone) (So.aa st (bM i (E.one i).gone)).1/\(So.aa st (bM i (E.one i).gone)).1.P= []/\∀y,y≠1+i->Dm.one (So.aa st (bM i (E.one i).gone)).1 y= Dm.one st y:= h.ll hi (OM h.form hi) λc=>absurd rfl c
theorem OO (c:E.S.length= 16) {i:Nat} (hi:i<16) {x:Sn} (h:(E.one i).t≠2) (b:x.t≠2):(E.set i x).al= E.al:=by
 have a:=λj=>En.one_set (E:=E) (i:=i) (by omega) x j;have key:∀k,k<=16->bZ (E.set i x) 2 k= bZ E 2 k:=by intro k;induction k with
  | zero=>intro _;rfl
  | succ k ih =>
  intro hk;show (if bZ (E.set i x) 2 k≠0 then bZ (E.set i x) 2 k else if ((E.set i x).one k).t= 2 then k+1 else 0)= if bZ E 2 k≠0 then bZ E 2 k else if (E.one k).t= 2 then k+1 else 0;rw [ih (by omega),a k];by_cases e:i= k;· subst e;rw [if_pos rfl,if_neg b,if_neg h]
  ·rw [if_neg e]
 exact key 16 (nm _)
variable{D:Sn.En}
theorem Rel.set {st':Dm.St} (m:Form E) (h:Rel E st D) {i:Nat} (hi:i<16) (n2:(E.one i).t≠2) {x:Sn} {y:Sn.One} (x2:x.t≠2) (f:∀j,j<E.n->Se.raw st' j= Se.raw st j) (p:y.s= (x.t:Int)/\y.a= (x.st:Int)/\y.n= (x.ln:Int)/\y.gen= x.gen) (q:x.t= 0->y.b= []/\y.t= []/\y.inv= false) (o:x.t≠0->y.t= x.M.T/\y.inv= x.M.inv) (r:x.t= 1->y.b= if x.M.inv= true then []else So.bI E.n (λj=>So.view E.g x.M (Se.raw st) j)):Rel (E.set i x) st' (D.set i y):=by
 have d:=λj=>En.one_set (E:=E) (i:=i) (by rw [m.len];exact hi) x j;have hd:=λj=>Sn.En.one_set (e:=D) (i:=i) (by rw [h.len];exact hi) y j;have hm:=OO m.len hi n2 x2;have l:∀M':So.Ms,So.bI E.n (λj=>So.view E.g M' (Se.raw st') j)= So.bI E.n (λj=>So.view E.g M' (Se.raw st) j):=λM'=>So.eu λj hj=>So.gF λ_=>f j hj;refine ⟨h.a,h.n,h.g,(List.length_set ..).trans h.len,?_,λj hj=>?_,λj hj h0=>?_,λj hj h0=>?_,λj hj h1=>?_⟩;·
  show D.b= So.bI E.n ((E.set i x).aF st');rw [h.aF];refine So.eu λj hj=>?_;unfold En.aF;rw [hm];by_cases e:E.al= 0;· rw [if_pos e,if_pos e];exact (f j hj).symm
  ·obtain ⟨k,hk,ek,tk⟩:=jn e;rw [if_neg e,if_neg e];unfold En.cI;rw [show E.al - 1= k by omega,d k,if_neg (λc=>by subst c;exact n2 tk)];exact (So.gF λ_=>f j hj).symm
 ·rw [hd j,d j];split;· exact p
  ·exact h.one j hj
 ·rw [d j]at h0;rw [hd j];split;· rename_i e;rw [if_pos e]at h0;exact q h0
  ·rename_i e;rw [if_neg e]at h0;exact h.free j hj h0
 ·rw [d j]at h0⊢;rw [hd j];split;· rename_i e;rw [if_pos e]at h0;exact o h0
  ·rename_i e;rw [if_neg e]at h0;exact h.aK j hj h0
 ·rw [d j]at h1;rw [hd j];unfold En.cI;rw [d j];split;·
   rename_i e;rw [if_pos e]at h1;rw [r h1];split;· rfl
   ·exact (l x.M).symm
  ·rename_i e;rw [if_neg e]at h1;rw [h.cI j hj h1];split;· rfl
   ·exact (l _).symm
variable{p:So.Pa}
theorem OQ (hp:p.Ok) (f:Nat->List UInt8):So.fg p (So.eH f (So.cy p)) (So.Ms.new p):=by
 refine ⟨?_,λ_ i hi=>?_,λi k hk h0=>?_⟩;·
  refine So.iW _ (So.k_ (So.xu (So.xy p false))) λd hd=>?_;rcases So.kZ (So.fF hd) with hw|hw;· obtain ⟨i,_,a,_⟩:=So.kj hw;have:=(p.nK i 0).1;omega
  ·exact (So.nO hw).2
 ·refine So.iW _ (So.k_ (So.k_ (So.xv (RP.2 hi)))) λd hd=>?_;rcases So.kZ (So.fF hd) with hw|hw;·
   obtain ⟨b,_,a,hd⟩:=So.kj hw;have:i= b:=by unfold So.Pa.ar at a;omega
   rw [hd,this];rfl
  ·have:=(So.nO hw).1;have:=(p.nK i 0).1;omega
 ·have hk:(vw p.N (-1:Int))[i]?= some k:=hk;rw [List.getElem?_replicate]at hk;split at hk;· injection hk with hk;omega
  ·cases hk
theorem Bw (hp:p.Ok) {x:Nat} {d:zL} (h:So.Wr (So.cy p) x d):So.cW p x:=by
 rcases So.kZ (So.fF h) with hw|hw;· obtain ⟨i,hi,a,_⟩:=So.kj hw;rw [a];exact So.td hp (RP.1 hi)
 ·rw [(So.nO hw).1];exact So.tb hp
theorem Bz (hp:p.Ok):∀o∈So.cy p,So.Good p.a o:= So.nP (So.sV (So.xA hp λi hi=>RP.1 hi) λo ho=>by rw [H5.1 ho];exact So.xB hp false)
theorem aD.create (h:aD E st) {i:Nat} (hi:i<16) (t0:(E.one i).t= 0) {x:Sn} (k:mY E i x) (f:x.t≠0) (s:x.M= So.Ms.new (E.bu x)): (So.aa st (cC E i x)).2= 0/\aD (E.set i x) (So.aa st (cC E i x)).1/\(So.aa st (cC E i x)).1.P= []/\(∀j,j<E.n->Se.raw (So.aa st (cC E i x)).1 j= Se.raw st j)/\(So.aa st (So.cy (E.bu x))).1.P= []:=by
 have hp:=k.pa f;have r:∀o∈cC E i x,So.Good E.a o:=So.sV (Bz hp) (Bt h.form hi x);have g:=So.kf h.ok h.dE (ops:=cC E i x) (λo ho=>by rw [h.dK];exact r o ho);have m:=So.kf h.ok h.dE (ops:=So.cy (E.bu x)) (λo ho=>by rw [h.dK];exact Bz hp o ho);have hk:=So.gL h.ok (cC E i x);have u:cC E i x= (So.cy (E.bu x) ++ [dh i (x.t:Int) (x.st:Int) (x.ln:Int) x.gen]) ++ [.fl]:=by unfold cC bM;simp
 have q:(So.aa st (cC E i x)).1.P= []:=by have:=g.1;rw [u]at this⊢;exact So.lX this
 have b:=λy=>So.lW h.ok g.1 y;have e:∀y,So.cW (E.bu x) y->17+E.n<=y:=λy hy=>by have l:17+E.n<=(E.bu x).st:=hp.low;have:=hy.1;omega
 have off:∀y,y≠1+i->¬So.cW (E.bu x) y->Dm.one (So.aa st (cC E i x)).1 y= Dm.one st y:=λy hy hn=>by
  rw [b y];refine So.fR _ λd hw=>?_;rcases So.kZ hw with hw|hw;· exact hn (Bw hp hw)
  ·exact hy (oV hw).1
 refine ⟨g.1,h.vg hi k hk.1 (hk.2.trans h.dK) g.2 q rfl ?_ (λh0=>?_) (λy hy hn=>off y hy (hn f)),q,λj hj=>off _ (by omega) (λc=>by have:=e _ c;omega),So.lX m.1⟩;·
  rw [b];refine So.iW _ (So.xu (Bs i x)) λd hd=>?_;rcases So.kZ hd with hw|hw;· have:=e _ (Bw hp hw);omega
  ·exact (oV hw).2
 ·have p:=OQ hp (Dm.one st);rw [<-s]at p;refine p.lh hp (k.fit h0) λy hy=>?_;rw [b y];unfold cC;rw [So.xz];exact So.fR _ λd hw=>by have:=(oV hw).1;have:=e _ hy;omega
theorem rD (h:Form E):Xm.aU (17+ (E.n:Int)) ((E.a:Int) - (17+ (E.n:Int))) E.bB= true:=by
 have l:=h.small;rw [Xm.iO];refine ⟨?_,λx hx=>?_,?_⟩;· rw [Xm.fo];omega
 ·unfold En.bB aR at hx;obtain ⟨i,hi,rfl⟩:=Tp.1 hx;obtain ⟨d,c⟩:=Vd.1 hi;have e:=RP.1 d;have j:(E.one i).t≠0:=by simpa using c
  have hp:=h.pa i e j;have h1:(E.one i).st+ (E.one i).ln<=E.a:=hp.high;have o:17+E.n<=(E.one i).st:=hp.low;have m:1+ (E.pa i).pg+ (E.pa i).N* (E.pa i).g<=(E.one i).ln:=hp.ag.size;rw [Xm.eV];show 1<=((E.one i).ln:Int)/\17+ (E.n:Int)<=((E.one i).st:Int)/\((E.one i).st:Int) + ((E.one i).ln:Int)<=_;omega
 ·have key:∀k,k<=16->(aR E k).Pairwise Xm.dM:=by intro k;induction k with
   | zero=>intro _;exact List.Pairwise.nil
   | succ k ih =>
   intro hk;rw [mV];split;·
    rename_i j;rw [Xh];refine ⟨ih (by omega),List.pairwise_singleton _ _,λa ha b hb=>?_⟩;rw [H5.1 hb];unfold aR at ha;obtain ⟨i,hi,rfl⟩:=Tp.1 ha;obtain ⟨d,c⟩:=Vd.1 hi;have e:=RP.1 d;have f:(E.one i).t≠0:=by simpa using c
    have:=h.apart i k (by omega) (by omega) (by omega) f j;show ((E.one i).st:Int) + ((E.one i).ln:Int)<=((E.one k).st:Int)\/((E.one k).st:Int) + ((E.one k).ln:Int)<=((E.one i).st:Int);omega
   ·exact ih (by omega)
  exact key 16 (nm _)
theorem nw {j:Nat} (a:j<16) (b:(E.one j).t≠0):(((E.one j).st:Int),((E.one j).ln:Int))∈E.bB:=by unfold En.bB aR;exact Tp.2 ⟨j,Vd.2 ⟨RP.2 a,by simpa using b⟩,rfl⟩
theorem OS {W:World} {q g0 g1 g2:Nat} {id X:Int} {v0 v1 v2 v3:Value} {Q:World->Prop} (c0:W.cell? (zD g0 0)= some (zP q)) (c1:W.cell? (zD g1 0)= some (zI id)) (c2:W.cell? (zD g2 0)= some v0/\W.cell? (zD g2 1)= some v1/\W.cell? (zD g2 2)= some v2/\W.cell? (zD g2 3)= some v3) (MK:zF 49 #[zP q,zI id, .agg #[v0,v1,v2,v3]] W λe w'=>e= aP X/\Q w'): zF 48 #[zP g0,zP g1,zP g2] W λe w'=>e= aP X/\Q w':=by
 have MK:=hT MK;obtain ⟨f,d,c,b⟩:=c2;by_cases a:X= 0;· subst a;rw [cF]at MK⊢;go_enter func48,ntmps48;go_wp2_with fail;refine zg MK.out λw1 h1=>?_;have H1:=hT h1;clear h1;go_wp2_with fail;go_end0;exact ⟨rfl,H1.out⟩
 ·rw [aX a]at MK⊢;unfold aB at MK⊢;go_enter func48,ntmps48;go_wp2_with fail;refine zg MK.out λw1 h1=>?_;have H1:=hT h1;clear h1;go_wp2;exact ⟨rfl,rfl,H1.out⟩
theorem rF (w:World) (q:Nat) (W0:World) (h:w.alloc (hV #[zP q] 40)= W0):zB w W0/\W0.heap.size= w.heap.size+1/\∀w',zB W0 w'->w'.cell? (zz w 0)= some (zP q):=by subst h;have b:=heap_alloc_new w (hV #[zP q] 40);refine ⟨zA,by simp,λw' hb=>?_⟩;have a:=(hb.block w.heap.size (by simp)).trans b;rw [cell_of_row _ _ _ _ _ _ a];rfl
theorem OT (h:Ek w B E st) (c:Int) (x:E.al≠0): zF 16 #[zP B.q,zI c] w λe w'=>e= zV (zI 0) (zI 163)/\zB w w':=by
 obtain ⟨n,g⟩:=eX2 (w.alloc (hV #[zP B.q] 40));obtain ⟨t,j,k⟩:=rF w _ n g;have i:=hT t;have z:=hT k;have v:=hT (λw1 (hb:zB w w1)=>qa (h.below hb).head);have u:=hT (λw1 (hb:zB w w1)=>jB (h.below hb).head);have d1:((E.al:Int) != 0):=by simp;omega
 generalize (E.al:Int)= m at u d1;generalize (E.firstFree:Int)= f at v;have y:=k n zR;clear h t k j x;go_enter func16,ntmps16;go_wp2_with fail;clear g;have s:=hT (v.out n i.out);refine zg s.out λw1 hb=>?_;have r:=hT hb;obtain ⟨l,d⟩:=eX2 (w1.alloc (hV #[zI f] 3));have b:zB w1 l:=by rw [<-d];exact zA
 have a:=zT r b;have c0:=z.out l a.out;have o:=hT (u.out l (i.out.trans (a.out.mono i.out.size)));clear hb b y;go_wp2_with fail;clear d;refine zg o.out λw3 hb=>?_;have p:=zT a hb;clear hb;go_wp2_with fail;go_ret2;exact ⟨rfl,i.out.trans (p.out.mono i.out.size)⟩
theorem OU (h:Ek w B E st) (c:Int) (z:E.al= 0) (h1:E.firstFree= 0): zF 16 #[zP B.q,zI c] w λe w'=>e= zV (zI 0) (zI 112)/\zB w w':=by
 obtain ⟨o,i⟩:=eX2 (w.alloc (hV #[zP B.q] 40));obtain ⟨v,l,n⟩:=rF w _ o i;have k:=hT v;have D:=hT n;have y:=hT (λw1 (hb:zB w w1)=>qa (h.below hb).head);have x:=hT (λw1 (hb:zB w w1)=>jB (h.below hb).head);have d1:((E.al:Int) != 0)= false:=by simp;omega
 have d2:((E.firstFree:Int) == 0):=by simp;omega
 generalize (E.al:Int)= m at x d1;obtain ⟨f,u⟩:=eX1 (E.firstFree:Int);rw [<-u]at y d2;have A:=n o zR;clear h v n l z h1 u;go_enter func16,ntmps16;go_wp2_with fail;clear i;have t:=hT (y.out o k.out);refine zg t.out λw1 hb=>?_;have s:=hT hb;obtain ⟨j,b⟩:=eX2 (w1.alloc (hV #[zI f] 3));have g:zB w1 j:=by rw [<-b];exact zA
 have a:j.heap[w1.heap.size]?= some (hV #[zI f] 3 (0,0)):=by rw [<-b];exact heap_alloc_new w1 _
 have d:=zT s g;have c0:=D.out j d.out;have p:=hT (x.out j (k.out.trans (d.out.mono k.out.size)));have C:Hid (∀w9,zB j w9->w9.cell? (zz w1 0)= some (zI f)):=hT λw9 hb9=>by have:=(hb9.block w1.heap.size (DN.1 a).1).trans a;rw [cell_of_row _ _ _ _ _ _ this];rfl
 clear hb g A a;go_wp2_with fail;clear b;refine zg p.out λw3 hb=>?_;have r:=zT d hb;have F:=C.out w3 hb;clear hb c0;go_wp2_with fail;go_ret2;exact ⟨rfl,k.out.trans (r.out.mono k.out.size)⟩
theorem vh (h:Ek w B E st) (c:Int) (P:E.al= 0) (h1:E.firstFree≠0) {t a n:Int} {g:Nat} {x:Int} (l:∀w1,zB w w1->zF 47 #[zP B.q,zI c] w1 λe w'=>e= zV (Sv t a n g) (zI x)/\zB w1 w') (F:x≠0): zF 16 #[zP B.q,zI c] w λe w'=>e= zV (zI 0) (zI x)/\zB w w':=by
 obtain ⟨y,p⟩:=eX2 (w.alloc (hV #[zP B.q] 40));obtain ⟨H,u,v⟩:=rF w _ y p;have k:=hT H;have K:=hT v;have M:=hT (λw1 (hb:zB w w1)=>qa (h.below hb).head);have J:=hT (λw1 (hb:zB w w1)=>jB (h.below hb).head);have d1:((E.al:Int) != 0)= false:=by simp;omega
 have d2:((E.firstFree:Int) == 0)= false:=by simp;omega
 have I:=hT l;unfold Sv at I;have d3:(x != 0):=by simpa using F
 generalize (E.al:Int)= m at J d1;obtain ⟨f,G⟩:=eX1 (E.firstFree:Int);rw [<-G]at M d2;have Q:=v y zR;clear h H v u P h1 G l F;go_enter func16,ntmps16;go_wp2_with fail;clear p;have D:=hT (M.out y k.out);refine zg D.out λw1 hb=>?_;have C:=hT hb;obtain ⟨r,d⟩:=eX2 (w1.alloc (hV #[zI f] 3));have o:zB w1 r:=by rw [<-d];exact zA
 have b:r.heap[w1.heap.size]?= some (hV #[zI f] 3 (0,0)):=by rw [<-d];exact heap_alloc_new w1 _
 have j:=zT C o;have c0:=K.out r j.out;have A:=hT (J.out r (k.out.trans (j.out.mono k.out.size)));have R:Hid (∀w9,zB r w9->w9.cell? (zz w1 0)= some (zI f)):=hT λw9 hb9=>by have:=(hb9.block w1.heap.size (DN.1 b).1).trans b;rw [cell_of_row _ _ _ _ _ _ this];rfl
 clear hb o Q b;go_wp2_with fail;clear d;refine zg A.out λw3 hb=>?_;have i:=zT j hb;have O:=K.out w3 i.out;have N:=R.out w3 hb;have L:=hT hb;clear hb c0;go_wp2_with fail;have z:=hT (I.out w3 (k.out.trans (i.out.mono k.out.size)));refine zg z.out λw4 hb=>?_;have s:=zT i hb;clear hb O N;go_wp2_with fail;go_ret2;exact ⟨rfl,k.out.trans ((s.out.alloc s.out.size _).mono k.out.size)⟩
theorem OV (h:Ek w B E st) (c:Int) (h0:E.al= 0) {i:Nat} (hi:i<16) (h1:E.firstFree= i+1) {x:Sn} (hx:x.t≠0) (hu:Um.aj (E.a:Int) (E.n:Int) (E.g:Int)) (G:Tm.bp (x.t:Int) (x.st:Int) (x.ln:Int) x.gen) (hp:(E.bu x).Ok) (hM:x.M= So.Ms.new (E.bu x)) (hl:st.S.length= E.a) (hP:st.P.length<=137438953472) (K:(So.aa st (So.cy (E.bu x))).2= 0->(So.aa st (So.cy (E.bu x))).1.P.length<=137438953472) (F:∀w1,zB w w1->zF 47 #[zP B.q,zI c] w1 λe w'=>e= zV (Sv (x.t:Int) (x.st:Int) (x.ln:Int) x.gen) (zI 0)/\zB w1 w'): zF 16 #[zP B.q,zI c] w λe w'=>((So.aa st (cC E i x)).2= 0/\e= zV (zI ((i:Int) +1)) (zI 0)/\ai B E (E.set i x) (So.aa st (cC E i x)).1 w w')\/((So.aa st (cC E i x)).2≠0/\e= zV (zI 0) (zI (So.aa st (cC E i x)).2)/\∃E',ai B E E' (So.aa st (cC E i x)).1 w w'):=by
 obtain ⟨W0,J⟩:=eX2 (w.alloc (hV #[zP B.q] 40));obtain ⟨hB,ab,hc⟩:=rF w _ W0 J;have j:=hT hB;have HC:=hT hc;have FR:=hT (λw1 (hb:zB w w1)=>qa (h.below hb).head);have MG:=hT (λw1 (hb:zB w w1)=>jB (h.below hb).head);have d1:((E.al:Int) != 0)= false:=by simp;omega
 have d2:((E.firstFree:Int) == 0)= false:=by simp;omega
 have PL:=hT F;have HX:=hT (show (E.firstFree:Int)= (i:Int) +1 by omega);have HK:=hT h;have CR:Hid (∀w1 id,zB w w1->id= (i:Int) +1->zF 49 #[zP B.q,zI id,Sv (x.t:Int) (x.st:Int) (x.ln:Int) x.gen] w1 (lJ B E st i x w1)):=hT λw1 id hb hid=>OD (h.below hb) hu hi id hid hx G hp hM hl hP K;unfold Sv at PL CR;generalize (E.al:Int)= m at MG d1;obtain ⟨f,hf⟩:=eX1 (E.firstFree:Int);rw [<-hf]at FR d2 HX;have T:=HX;have Q:=hT λk hk=>h.lt k hk;have b0:=hc W0 zR;clear h hB hc ab h0 hf h1 F hx hu G hp hM hl hP K;go_enter func16,ntmps16;go_wp2_with fail;clear J;have ba:=hT (FR.out W0 j.out);refine zg ba.out λw1 hb=>?_;have Z:=hT hb;obtain ⟨N,u⟩:=eX2 (w1.alloc (hV #[zI f] 3));have I:zB w1 N:=by rw [<-u];exact zA
 have l:N.heap[w1.heap.size]?= some (hV #[zI f] 3 (0,0)):=by rw [<-u];exact heap_alloc_new w1 _
 have C:=zT Z I;have c0:=HC.out N C.out;have af:=hT (MG.out N (j.out.trans (C.out.mono j.out.size)));have HF:Hid (∀D,zB N D->D.cell? (zz w1 0)= some (zI f)):=hT λD hb9=>by have:=(hb9.block w1.heap.size (DN.1 l).1).trans l;rw [cell_of_row _ _ _ _ _ _ this];rfl
 have R:=hT (DN.1 l).1;clear hb I b0 l;go_wp2_with fail;clear u;refine zg af.out λw3 hb=>?_;have A:=zT C hb;have y0:=HC.out w3 A.out;have y1:=HF.out w3 hb;have Y:=hT hb;clear hb c0;go_wp2_with fail;have ad:=hT (PL.out w3 (j.out.trans (A.out.mono j.out.size)));refine zg ad.out λw4 hb=>?_;have aw:=zT A hb;have V:=zT Y hb;clear hb y0 y1;obtain ⟨L,s⟩:=eX2 (w4.alloc (hV #[zI x.t,zI x.st,zI x.ln,zU x.gen] 68));obtain ⟨r,H⟩:=kE w4 _ _ _ _ L s;have z:=zT aw r;have d:=zT V r;have AT:Hid (zF 42 #[.func (.func 48) #[] #[zP w.heap.size,zP w1.heap.size,zP w4.heap.size]] L λe w'=>e= nf (zI (So.aa st (cC E i x)).2)/\∃E',ai B E E' (So.aa st (cC E i x)).1 L w'/\((So.aa st (cC E i x)).2= 0->E'= E.set i x)):=hT (by
  have p:=j.out.trans (z.out.mono j.out.size);refine (qV (HK.out.below p) (enters_of func48 (by kernel_rfl) rfl) (first:=#[]) (cap:=#[zP w.heap.size,zP w1.heap.size,zP w4.heap.size]) (λy E' st'=>y= (So.aa st (cC E i x)).2/\st'= (So.aa st (cC E i x)).1/\((So.aa st (cC E i x)).2= 0->E'= E.set i x)) λW hW hb=>?_).mono ?_;· have:=CR.out W f (p.trans (hb.mono p.size)) T.out;refine (OS (HC.out W (zH z hb)) (HF.out W (zH d hb)) (H W hb) this).mono ?_;rintro e D ⟨k1,E',k2,k3⟩;exact ⟨_,E',_,k1,⟨rfl,rfl,k3⟩,k2⟩
  ·rintro e D ⟨y,E',st',rfl,⟨rfl,rfl,k3⟩,k2⟩;exact ⟨rfl,E',k2,k3⟩);have U:=hT (j.out.trans (z.out.mono j.out.size));have O:Hid (w.heap.size<=w1.heap.size/\w1.heap.size<L.heap.size):=hT ⟨A6 j.out.size Z.out.size,by have h1:=d.out.size;have h2:=R.out;omega⟩;obtain ⟨X,hX⟩:=eX1 ((So.aa st (cC E i x)).2);have v:=hT hX;rw [<-hX]at AT;have ao:=hT (HF.out L d.out);clear hX r H;by_cases b:X= 0;·
  have dx:(X != 0)= false:=by simp [b]
  have o:=hT b;clear b;go_wp2_with fail;clear s;refine AT.out.mono ?_;rintro e w6 ⟨rfl,E',hw,hE⟩;have e9:=hE o.out;rw [e9]at hw;have KB:=(hw.box O.out.2 (λhf=>by have:=Q.out _ hf;have:=O.out.1;omega) 0).trans (ao.out);have HW:=hT (hw.below U.out);clear hw hE e9;go_wp2_with fail;go_ret2;exact .inl ⟨by rw [<-v.out];exact o.out,by rw [T.out];rfl,HW.out⟩
 ·have dx:(X != 0):=by simpa using b
  have o:=hT b;clear b;go_wp2_with fail;clear s;refine AT.out.mono ?_;rintro e w6 ⟨rfl,E',hw,hE⟩;have HW:=hT (hw.below U.out);clear hw hE;go_wp2_with fail;go_ret2;exact .inr ⟨by rw [<-v.out];exact o.out,by rw [<-v.out];rfl,E',HW.out⟩
def cn (E:En) (k:Nat):zN:=((MR k).filter λ(i:Nat)=>decide ((E.one i).t≠0)).map λ(i:Nat)=>((i:Int) +1)
theorem oL (E:En) (k:Nat):cn E (k+1)= if (E.one k).t≠0 then cn E k ++ [(k:Int) +1]else cn E k:=by
 unfold cn;rw [TO,List.filter_append,R0];by_cases h:(E.one k).t≠0;· rw [if_pos h];simp [h]
 ·rw [if_neg h];simp [h]
theorem rh (E:En) (k:Nat):(cn E k).length<=k:=by unfold cn;rw [PN];exact A6 (List.length_filter_le _ _) (by rw [Tw];exact nm _)
theorem cA.box {wr:World} {l:zN} {v:Value} {n:Nat} (h:Tb.cA w l v n wr) (c:Obj):Tb.cA w l v n (wr.alloc c):= ⟨ae.bc h.row λj hj=>Below.heap_alloc _ _ _ (by obtain ⟨cur,a⟩:=ae.bV h.row j hj;exact ae.lt_of_heap a),h.len,h.new,h.below.alloc h.below.size _⟩
theorem OX (h:Hd w B E): zF 30 #[zP B.q] w λr w'=>Tb.lv (cn E 16) w r w':=by
 have G:=hT h.lj;have A:=hT (λk (hk:k<16)=>mx E k hk);clear h;go_enter func30,ntmps30;go_wp2_with (refine wpList_load_mid rfl 89 _ rfl B.q 5 rfl (bh 64 (cG E)) _ G.out underlying89 rfl (my E) ?_);generalize hAV:Value.agg (bh 64 (cG E)).toArray= AV;rw [hAV]at A;clear hAV;go_loopw [12,3] (λi s wr=>∃(k n:Nat) (v:Value),i= zI k/\s= v/\k<=16/\Hid (Tb.cA w (cn E k) v n wr)) (λi _ _=>16 - (wo i).toNat);case atStart=>exact ⟨0,0,_,rfl,rfl,yb _,hT (show Tb.cA w [] _ 0 w from Tb.cA.nil zR)⟩
 case round=>
  obtain ⟨k,n,v,rfl,m,hk,p⟩:=hrel;subst m;by_cases o:k<16;·
   have d1:decide ((k:Int) <16):=by simp;omega
   have u:decide (k<16):=by simp;omega
   have D:lg.wrap ((k:Int) +1)= ((k+1:Nat):Int):=by rw [rr _ (by omega)];rfl
   have b:=A.out k o;have g:=hT (oL E k);have C:=hT (rh E k);generalize (E.one k).t= s at b g;generalize ((E.one k).st:Int)= x1 at b g;generalize ((E.one k).ln:Int)= x2 at b g;generalize ((E.one k).gen:Int)= x3 at b;by_cases f:s= 0;·
    have d2:((s:Int) != 0)= false:=by simp;omega
    have y:Hid (cn E (k+1)= cn E k):=hT (by rw [g.out,if_neg (by omega)]);clear f;go_wp2_with fail;go_roundw;case rel=>exact ⟨k+1,n,_,by go_num,rfl,by omega,by rw [y.out];exact hT (cA.box p.out _)⟩
    case measure=>simp [wo];omega
   ·have d2:((s:Int) != 0):=by simp;omega
    have y:Hid (cn E (k+1)= cn E k ++ [((k+1:Nat):Int)]):=hT (by rw [g.out,if_pos f];rfl);obtain ⟨w2,j⟩:=eX2 (wr.alloc (hV #[zI s,zI x1,zI x2,zU x3] 68));have d:Hid (Tb.cA w (cn E k) _ n w2):=hT (by rw [<-j];exact cA.box p.out _);have c0:w2.cell? (zz wr 0)= some (zI s):=by rw [<-j];exact cell_of_row _ _ _ _ _ _ (heap_alloc_new wr _)
    obtain ⟨a,c,F⟩:=ae.ck d.out.row;subst F;have x:=hT (d.out.own ((k+1:Nat):Int));have l:=hT d.out.len;have J:n<=16:=by have:=l.out;have:=C.out;omega
    clear f g C;go_wp2_with (at_builtin;refine Tb.mH rfl (.tmp 19) (.tmp 22) 59 underlying59 rfl (.slice a n c) n (cn E k) rfl l.out (by omega) x.out w2.heap.size ((k+1:Nat):Int) rfl (by simp) ?_;intro I w3 h1 f z;have H:=hT (d.out.add h1 f z);clear h1 f z);go_roundw;case rel=>exact ⟨k+1,n+1,_,by go_num,rfl,by omega,by rw [y.out];exact H⟩
    case measure=>simp [wo];omega
  ·have d1:decide ((k:Int) <16)= false:=by simp;omega
   have u:decide (k<16)= false:=by simp;omega
   have e:k= 16:=by omega
   subst e;go_wp2_with fail;go_ret;exact p.out.made
open Go.RowKit Go.Proofs.YtchihokmgmchcaaGreat.Xm
theorem OY {fn:Func} {p:Tmp} (h:fn.results= #[.cell p 23]) (tmps:Array Value) (w:World) (g:Nat) (x y z:Value) (hp:tmps.getD p undef= zP g) (b:w.heap[g]?= some (hV #[x,y,z] 23 (0,0))): (results fn tmps).run prog w= .ok (.agg #[x,y,z]) w:=by
 have a:tmps[p]?.getD undef= zP g:=by simpa using hp
 have c0:w.cell? (zD g 0)= some x:=zW b;have c1:w.cell? (zD g 1)= some y:=zW b;have c2:w.cell? (zD g 2)= some z:=zW b;simp [results,h,a,asAddr,Result.andThen,go_sem,c0,c1,c2]
theorem km {B:Nat} {a:World} {g:Nat} (h:Below B a w) (hg:B<=g) (x y z:Value):Below B a (((w.setCell ⟨g,0,none⟩ x).setCell ⟨g,1,none⟩ y).setCell ⟨g,2,none⟩ z):= ((h.setCell (p:=(zD g 0)) hg x).setCell (p:=(zD g 1)) hg y).setCell (p:=(zD g 2)) hg z
theorem OZ (h:Hd w B E):zF 36 #[zP B.q] w λr w'=>r= nf (zO E.a E.n E.g)/\zB w w':=by
 have e:Hid (∀w1,zB w w1->w1.cell? (zD B.q 0)= some (zI E.a)/\w1.cell? (zD B.q 1)= some (zI E.n)/\w1.cell? (zD B.q 2)= some (zI E.g)):=hT λw1 hb=>⟨(h.below hb).low.1,(h.below hb).low.2.1,(h.below hb).low.2.2.1⟩;obtain ⟨d,c⟩:=eX2 (w.alloc (zK 0 0 0 23));have f:Hid (zB w d):=hT (by rw [<-c];exact zA);have b:d.heap[w.heap.size]?= some (hV #[zI 0,zI 0,zI 0] 23 (0,0)):=by rw [<-c];exact heap_alloc_new w _
 have i:=hT b;obtain ⟨s,a1,a2⟩:=e.out d f.out;clear h e;have o:=cell_of_row _ _ 0 _ _ _ b;have m:=cell_of_row _ _ 1 _ _ _ b;have l:=cell_of_row _ _ 2 _ _ _ b;have k:=λj=>frozen_of_row _ _ j _ _ b;clear b;go_enter func36,ntmps36;go_wp2_with fail;refine bodyPost_ret (OY (p:=2) rfl _ _ w.heap.size _ _ _ rfl (lq i.out _ _ _)) rfl ?_;exact ⟨rfl,km f.out (nm _) _ _ _⟩
theorem BA (w:World) {W0:World} (a:w.alloc (hV #[zI 0,zI 0,zI 0,zU 0] 68)= W0):zB w W0/\W0.heap[w.heap.size]?= some (hV #[zI 0,zI 0,zI 0,zU 0] 68 (0,0)):= ⟨by rw [<-a];exact zA,by rw [<-a];exact heap_alloc_new w _⟩
theorem O0 (h:Hd w B E) (id:Int) (d:E.has id= false):zF 37 #[zP B.q,zI id] w λr w'=>r= zV (Sv 0 0 0 0) (zI 161)/\zB w w':=by obtain ⟨n,b⟩:=eX2 (w.alloc (hV #[zI 0,zI 0,zI 0,zU 0] 68));obtain ⟨c,a⟩:=BA w b;have R:=hT (mz (h.below c) id);rw [d]at R;have e:=hT c;have f:=hT a;have m:=cell_of_row _ _ 0 _ _ _ a;have l:=cell_of_row _ _ 1 _ _ _ a;have k:=cell_of_row _ _ 2 _ _ _ a;have i:=cell_of_row _ _ 3 _ _ _ a;have g:=λj=>frozen_of_row _ _ j _ _ a;clear a c h d;go_enter func37,ntmps37;go_wp2_with fail;refine zh R.out ?_;go_wp2_with fail;refine bodyPost_ret (gH (p:=4) (u:=5) rfl _ _ w.heap.size _ _ _ _ _ rfl rfl (dc f.out _ _ _ _)) rfl ?_;exact ⟨rfl,dd e.out (nm _) _ _ _ _⟩
theorem O2 (h:Hd w B E) (id:Int) (k:Nat) (hk:k<16) (e1:id= (k:Int) +1) (e:(E.one k).t≠0):zF 37 #[zP B.q,zI id] w λr w'=>r= zV (Sv (E.one k).t (E.one k).st (E.one k).ln (E.one k).gen) (zI 0)/\zB w w':=by
 obtain ⟨y,c⟩:=eX2 (w.alloc (hV #[zI 0,zI 0,zI 0,zU 0] 68));obtain ⟨b,a⟩:=BA w c;have d:=cO.2 ⟨k,hk,e1,e⟩;have R:=hT (mz (h.below b) id);rw [d]at R;have g:=hT b;have i:=hT a;have s:=cell_of_row _ _ 0 _ _ _ a;have o:=cell_of_row _ _ 1 _ _ _ a;have n:=cell_of_row _ _ 2 _ _ _ a;have m:=cell_of_row _ _ 3 _ _ _ a;have l:=λj=>frozen_of_row _ _ j _ _ a;obtain ⟨c0,c1,c2,c3⟩:=(h.below b).slot hk;have f:lg.wrap (id - 1)= (k:Int):=by rw [rr _ (by omega)];omega
 have x:(0:Int)<=(k:Int):=by omega
 have v:(k:Int) <16:=by omega
 generalize (E.one k).t= x0 at c0;generalize (E.one k).st= x1 at c1;generalize (E.one k).ln= x2 at c2;generalize (E.one k).gen= x3 at c3;clear a b h d e1 e hk;go_enter func37,ntmps37;go_wp2_with fail;refine zh R.out ?_;go_wp2_with fail;refine bodyPost_ret (gH (p:=4) (u:=5) rfl _ _ w.heap.size _ _ _ _ _ rfl rfl (dc i.out _ _ _ _)) rfl ?_;exact ⟨rfl,dd g.out (nm _) _ _ _ _⟩
def En.free (E:En):Int:=Xm.jr (17+ (E.n:Int)) ((E.a:Int) - (17+ (E.n:Int))) E.bB
theorem O3 (h:Hd w B E) (i:Good E st):zF 34 #[zP B.q] w λr w'=>r= nf (zI E.free)/\zB w w':=by obtain ⟨T,f⟩:=eX1 E.free;rw [<-f];unfold En.free at f;have ST:=hT (λw1=>lr (E.a:Int) (E.n:Int) (E.g:Int) w1 i.aj);have l:=hT (λw1 (b:zB w w1)=>uY (h.below b));have j:=hT (λw1 p c (d:Xm.bd w1 p E.bB)=>Xm.Oq (17+ (E.n:Int)) ((E.a:Int) - (17+ (E.n:Int))) (rB i) p c w1 d);rw [<-f]at j;obtain ⟨t,a1,a2,_⟩:=h.low;clear h i f;go_enter func34,ntmps34;go_wp2_with fail;refine zg (ST.out _) λw1 b=>?_;have k:=hT b;clear b;go_wp2_with fail;refine (l.out _ k.out).mono ?_;rintro e w2 ⟨p,c,rfl,d,b⟩;have s:=zT k b;have m:=hT d;clear b d;go_wp2_with fail;refine zg (j.out _ p c m.out) λw3 b=>?_;have o:=zT s b;clear b;go_wp2_with fail;go_ret;exact ⟨rfl,o.out⟩
open Go.RowKit
structure eY (E:En) (st:Dm.St) (D:Sn.En):Prop where
 bE:aD E st
 none:st.P= []
 rel:Rel E st D
theorem eY.aS (h:eY E st D):st.P.length<=68719476736:=by rw [h.none];exact yb _
theorem eY.aN (h:eY E st D):Good E st:=h.bE.aN h.aS
def fL (B:Eb) (E:En) (D':Sn.En) (w w':World):Prop:=∃E' st',ai B E E' st' w w'/\eY E' st' D'
theorem fL.ax {w':World} (h:Ek w B E st) (hb:eY E st D) (hw:zB w w'):fL B E D w w':=⟨E,st,ai.ax h hw,hb⟩
theorem Rel.there (h:Rel E st D) (id:Int):D.there id= E.has id:=by
 unfold Sn.En.there En.has;by_cases h1:1<=id;·
  by_cases a:id<=16;·
   have:=(h.one (id - 1).toNat (by omega)).1;rw [this];congr 1;by_cases c:(E.one (id - 1).toNat).t= 0;· simp
   ·simp
  ·simp [a]
 ·simp [h1]
theorem Rel.usable (h:Rel E st D) (id:Int):D.usable id= E.refuse id:=by
 unfold Sn.En.usable En.refuse;rw [h.there,h.al];by_cases a:id= 0;· rw [if_pos a,if_pos a]
 ·rw [if_neg a,if_neg a];cases hh:E.has id with
  | false=>rfl
  | true => rw [if_pos rfl,if_pos rfl];obtain ⟨k,hk,e,b⟩:=cO.1 hh;rw [show (id - 1).toNat= k by omega,(h.aK k hk b).2]
theorem vq (b:Form E) {id:Int} (h:E.refuse id= 0):Us E id:=by
 by_cases d:id= 0;· exact .inl d
 ·unfold En.refuse at h;rw [if_neg d]at h;cases hh:E.has id with
  | false=>rw [hh]at h;cases h
  | true =>
  rw [hh,if_pos rfl]at h;obtain ⟨k,hk,e,f⟩:=cO.1 hh;by_cases hm:(E.al:Int)= id;· rw [if_pos hm]at h;cases h
  ·rw [if_neg hm,show (id - 1).toNat= k by omega]at h;have a:(E.one k).M.inv= false:=by cases a:(E.one k).M.inv with
    | false=>rfl
    | true=>rw [a,if_pos rfl]at h;cases h
   refine .inr ⟨k,hk,e,?_,a⟩;have:=b.t2 hk;by_cases c:(E.one k).t= 2;· have:=uW b hk c;omega
   ·omega
theorem Rel.used (h:Rel E st D):Sn.aR D 16= E.bB:=by
 have key:∀k,k<=16->Sn.aR D k= aR E k:=by intro k;induction k with
  | zero=>intro _;rfl
  | succ k ih =>
  intro hk;rw [Sn.mV,mV,ih (by omega)];obtain ⟨a,b,c,_⟩:=h.one k (by omega);rw [a,b,c];by_cases t:(E.one k).t= 0;· rw [if_neg (by simp [t]),if_neg (by simp [t])]
  ·rw [if_pos (by simpa using t),if_pos t]
 exact key 16 (nm _)
theorem Rel.rM (h:Rel E st D):Sn.gl D 16= E.dG:=by
 have key:∀j,j<=16->max (iq E (16 - j)) (Sn.gl D j)= iq E 16:=by intro j;induction j with
  | zero=>intro _;show max (iq E 16) 0= _;omega
  | succ j ih =>
  intro c;have b:Sn.gl D (j+1)= max (Sn.gl D j) (D.one (15 - j)).gen:=rfl;have d:iq E (16 - j)= max (iq E (15 - j)) (E.one (15 - j)).gen:=by rw [show 16 - j= (15 - j) +1 by omega];rfl
  have a:=(h.one (15 - j) (by omega)).2.2.2;have:=ih (by omega);rw [b,a,show 16 - (j+1)= 15 - j by omega];omega
 have:=key 16 (nm _);unfold En.dG;rw [<-this];show _= max 0 _;omega
theorem Qo (h:Rel E st D):Sn.dQ D 16= (E.firstFree:Int) - 1:=by
 have key:∀j,j<=16->(Sn.dQ D j= -1/\∀i,16 - j<=i->i<16->(E.one i).t≠0)\/∃k:Nat,16 - j<=k/\k<16/\Sn.dQ D j= (k:Int)/\(E.one k).t= 0/\∀i,16 - j<=i->i<k->(E.one i).t≠0:=by intro j;induction j with
  | zero=>intro _;exact .inl ⟨rfl,λi h1 h2=>by omega⟩
  | succ j ih =>
  intro o;have e:Sn.dQ D (j+1)= if (D.one (15 - j)).s= 0 then ((15 - j:Nat):Int) else Sn.dQ D j:=rfl;have m:=(h.one (15 - j) (by omega)).1;by_cases c:(E.one (15 - j)).t= 0;· rw [if_pos (by rw [m,c];rfl)]at e;exact .inr ⟨15 - j,by omega,by omega,e,c,λi h1 h2=>by omega⟩
  ·rw [if_neg (by rw [m];omega)]at e;rw [e];rcases ih (by omega) with ⟨a,b⟩|⟨k,a1,a2,a3,d,l⟩;·
    refine .inl ⟨a,λi h1 h2=>?_⟩;by_cases g:i= 15 - j;· subst g;exact c
    ·exact b i (by omega) h2
   ·refine .inr ⟨k,by omega,a2,a3,d,λi h1 h2=>?_⟩;by_cases g:i= 15 - j;· subst g;exact c
    ·exact l i (by omega) h2
 rcases key 16 (nm _) with ⟨a,b⟩|⟨k,_,a2,a3,d,l⟩;·
  rw [a];have:E.firstFree= 0:=by
   by_cases c:E.firstFree= 0;· exact c
   ·obtain ⟨i,hi,_,f,_⟩:=lp (E:=E) (x:=0) (k:=16) c;exact absurd f (b i (by omega) hi)
  rw [this];rfl
 ·rw [a3];have:E.firstFree= k+1:=by
   have c:E.firstFree≠0:=λc=>nS (E:=E) (x:=0) (k:=16) c k a2 d;obtain ⟨i,hi,e,f,n⟩:=lp (E:=E) (x:=0) (k:=16) c;have e:E.firstFree= i+1:=e;rcases Nat.lt_trichotomy i k with h1|h1|h1;· exact absurd f (l i (by omega) h1)
   ·omega
   ·exact absurd d (n k h1)
  rw [this];omega
def En.fM (E:En) (c:Int):Sn:= ⟨1,(Xm.cJ (17+ (E.n:Int)) ((E.a:Int) - (17+ (E.n:Int))) (bC E c) E.bB).toNat,(Xm.cK (17+ (E.n:Int)) ((E.a:Int) - (17+ (E.n:Int))) (bC E c) E.bB).toNat,E.dG+1, So.Ms.new ⟨E.a,E.n,E.g,(Xm.cJ (17+ (E.n:Int)) ((E.a:Int) - (17+ (E.n:Int))) (bC E c) E.bB).toNat,(Xm.cK (17+ (E.n:Int)) ((E.a:Int) - (17+ (E.n:Int))) (bC E c) E.bB).toNat, Em.room E.g (Xm.cK (17+ (E.n:Int)) ((E.a:Int) - (17+ (E.n:Int))) (bC E c) E.bB).toNat,E.dG+1⟩⟩
structure Qp (E:En) (i:Nat) (c:Int):Prop where
 vg:mY E i (E.fM c)
 st:((E.fM c).st:Int)= Xm.cJ (17+ (E.n:Int)) ((E.a:Int) - (17+ (E.n:Int))) (bC E c) E.bB
 ln:((E.fM c).ln:Int)= Xm.cK (17+ (E.n:Int)) ((E.a:Int) - (17+ (E.n:Int))) (bC E c) E.bB
 room:Em.room E.g (E.fM c).ln= c.toNat
theorem Qq (r:Form E) {i:Nat} (hi:i<16) (I:(E.one i).t= 0) {c:Int} (m:dH E c= 0) (q:Xm.dA (17+ (E.n:Int)) ((E.a:Int) - (17+ (E.n:Int))) (bC E c) E.bB= 0) (H:E.dG<4294967295):Qp E i c:=by
 have C:=r.small;have D:Em.aM (E.n:Int) (E.g:Int):=(Em.cM _ _).2 ⟨by omega,by omega,by omega,by omega⟩;have A:1<=c/\c<=1048576:=by
  unfold dH at m;by_cases A:c<1\/1048576<c;· rw [Geo.lP D A]at m;exact absurd m (by decide)
  ·omega
 have B:bC E c= ((Em.size E.g c.toNat:Nat):Int):=by unfold bC;rw [if_pos m]
 have F:1<=Em.size E.g c.toNat:=by unfold Em.size;omega
 have hu:=rD r;obtain ⟨w1,_,_⟩:=Xm.OI hu q;have o:Xm.cK (17+ (E.n:Int)) ((E.a:Int) - (17+ (E.n:Int))) (bC E c) E.bB= bC E c:=by have h:Xm.aU (17+ (E.n:Int)) ((E.a:Int) - (17+ (E.n:Int))) E.bB= true/\1<=bC E c:=⟨hu,by rw [B];omega⟩;cases hro:Xm.room (bC E c) (Xm.bF (17+ (E.n:Int)) ((E.a:Int) - (17+ (E.n:Int))) E.bB) with
  | none=>rw [(Xm.oS h hro).2.2]at q;exact absurd q (by decide)
  | some x=>exact (Xm.oT h hro).2.1
 obtain ⟨G,v,u⟩:=Xm.iO.1 w1;obtain ⟨e,d⟩:=eX1 (Xm.cJ (17+ (E.n:Int)) ((E.a:Int) - (17+ (E.n:Int))) (bC E c) E.bB);rw [o,<-d]at v u;have p:=Xm.eV.1 (v (e,bC E c) (by simp));obtain ⟨z,y,w⟩:=p;have z:1<=bC E c:=z;have y:17+ (E.n:Int)<=e:=y;have w:e+bC E c<=17+ (E.n:Int) + ((E.a:Int) - (17+ (E.n:Int))):=w;have s:((E.fM c).st:Int)= e:=by show ((Xm.cJ _ _ _ _).toNat:Int)= _;rw [<-d];omega
 have l:((E.fM c).ln:Int)= bC E c:=by show ((Xm.cK _ _ _ _).toNat:Int)= _;rw [o];omega
 have k:(E.fM c).ln= Em.size E.g c.toNat:=by rw [B]at l;omega
 have b:Em.room E.g (E.fM c).ln= c.toNat:=by rw [k];exact Em.C6 (by omega)
 have f:(E.bu (E.fM c)).Ok:=by
  refine ⟨r.aj,rfl,?_,?_,?_,?_,?_⟩;· show 0<Em.room E.g (E.fM c).ln;rw [b];omega
  ·show 17+E.n<=(E.fM c).st;omega
  ·show (E.fM c).st+ (E.fM c).ln<=E.a;omega
  ·show 1<=E.dG+1;omega
  ·show E.dG+1<4294967296;omega
 refine ⟨⟨?_,?_,λ_=>f,λ_=>So.FZ f,λ_ j hj hji hj0=>?_,λc=>(by cases c),λc=>(by cases c)⟩,by rw [s,d],by rw [l,o],b⟩;· show Tm.bp ((1:Nat):Int) ((E.fM c).st:Int) ((E.fM c).ln:Int) (E.dG+1)= true;rw [show ((1:Nat):Int)= 1 from rfl,Tm.qy,Bool.and_eq_true,Tm.tY,decide_eq_true_eq];omega
 ·show E.dG+1<4294967296;omega
 ·have hp:=(Xh.1 u).2.2 _ (nw hj hj0) (e,bC E c) (by simp);unfold Xm.dM at hp;have hp:((E.one j).st:Int) + ((E.one j).ln:Int)<=e\/e+bC E c<=((E.one j).st:Int):=hp;omega
end Se
end
section
namespace Sn
open Go.RowKit
def En.put (X:En) (id:Int) (b:zL):En:=if id= 0 then X.dF b else X.set (id - 1).toNat {X.one (id - 1).toNat with b:=b}
def En.jV (D:En) (a:Int) (d:zL):Bool:=decide (0<=a) && decide (a+ ((d.length / 64:Nat):Int)<=(D.n:Int))
def En.iR (D:En) (id a:Int) (d:zL):En×Bool:=au D id (Em.split D.g a.toNat (d.length / 64)) (Em.split D.g a.toNat (d.length / 64)).length
def En.cD (D:En) (id a:Int) (d:zL):Int:= if D.usable id≠0 then D.usable id else if d.length % 64≠0 then 1 else if D.jV a d= false then 2 else if (D.iR id a d).2= true then 0 else 162
def En.wr (D:En) (id a:Int) (d:zL):En:= if D.cD id a d= 0 then (D.iR id a d).1.put id (So.splice (D.whole id) d a.toNat) else if D.usable id= 0/\D.cD id a d= 162 then (D.iR id a d).1 else D
variable{id:Int}
theorem Qr {D:En} (a:D.s.length= 16) (d:id= 0\/∃k:Nat,k<16/\id= (k:Int) +1) {c:Nat} (h:(D.bK id c).2):(D.bK id c).1.whole id= D.whole id/\(D.bK id c).1.s.length= 16:=by
 rcases d with rfl|⟨k,hk,e⟩;·
  have g:D.bK 0 c= ((if D.own c= true then D.save c else D),true):=by unfold En.bK;rw [if_pos rfl]
  rw [g];by_cases f:D.own c= true;· rw [if_pos f];exact ⟨(uT D c 16).2.2.2,(uR D c 16).trans a⟩
  ·rw [if_neg f];exact ⟨rfl,a⟩
 ·unfold En.bK at h⊢;rw [if_neg (by omega)]at h⊢;rw [show (id - 1).toNat= k by omega]at h⊢;have h:((D.one k).place c).2:=h;refine ⟨?_,by simp [En.set,a]⟩;unfold En.whole;rw [if_neg (by omega),if_neg (by omega),show (id - 1).toNat= k by omega];show ((D.set k ((D.one k).place c).1).one k).b= _;rw [jt a hk,if_pos rfl];unfold One.place at h⊢;split;· rfl
  ·split;· rfl
   ·rename_i h1 _ i;rw [if_neg h1,i]at h;cases h
theorem vr {D:En} (g:D.s.length= 16) (f:id= 0\/∃k:Nat,k<16/\id= (k:Int) +1) (ps:List Em.Pc):∀k,(au D id ps k).2= true->(au D id ps k).1.whole id= D.whole id/\(au D id ps k).1.s.length= 16
 | 0,_=>⟨rfl,g⟩
 | k + 1, h => by have e:au D id ps (k+1)= if (au D id ps k).2= true then (au D id ps k).1.bK id (ps.getD k ⟨0,0,0⟩).c else au D id ps k:=rfl;cases hk:(au D id ps k).2 with
 | false => rw [hk,if_neg (by decide)]at e;rw [e,hk]at h;cases h
 | true => rw [hk,if_pos rfl]at e;rw [e]at h⊢;obtain ⟨a,b⟩:=vr g f ps k hk;obtain ⟨c,d⟩:=Qr b f h;exact ⟨c.trans a,d⟩
theorem fC {w:World} {e:Eb} {E:En} (h:Ek w e E) (id a:Int) (D:zL) (x:Em.aM (E.n:Int) (E.g:Int)) (y:D.length<=1073741824) (I:a<=9223372036854775807) (C:iQ E) (z:E.usable id= 0->(E.whole id).length= 64*E.n): zF 25 #[zP e.q,zI id,zI a, .string (Om.B D)] w λr w'=>r= nf (zI (E.cD id a D))/\aT e (E.wr id a D) w w':=by
 have K:=(Em.cM _ _).1 x;by_cases f:E.usable id= 0;·
  by_cases H:D.length % 64= 0;·
   by_cases A:0<=a/\a+ ((D.length / 64:Nat):Int)<=(E.n:Int);·
    have G:E.jV a D:=by unfold En.jV;simp;omega
    obtain ⟨k,rfl⟩:∃k:Nat,a= (k:Int):=⟨a.toNat,by omega⟩;have hid:=rL f;have F:D.length= 64* (D.length / 64):=by omega
    have o:E.cD id (k:Int) D= if (E.iR id (k:Int) D).2= true then 0 else 162:=by unfold En.cD;rw [if_neg (by rw [f];decide),if_neg (by omega),G,if_neg (by decide)]
    have p:E.iR id (k:Int) D= au E id (Em.split E.g k (D.length / 64)) (Em.split E.g k (D.length / 64)).length:=rfl;have s:∀i (hi:i< (Em.split E.g k (D.length / 64)).length),(Em.split E.g k (D.length / 64))[i].c<=1048576:=λi hi=>by obtain ⟨at_,M,h1,_,L,_⟩:=Em.rW (c:=E.g) (by omega) (D.length / 64) k (k+D.length / 64) (by omega) (by omega) i (Em.split E.g k (D.length / 64))[i] (C1 hi);have:at_ / E.g<=at_:=Nat.div_le_self _ _;omega
    have j:∀E2,E2= (au E id (Em.split E.g k (D.length / 64)) (Em.split E.g k (D.length / 64)).length).1->(au E id (Em.split E.g k (D.length / 64)) (Em.split E.g k (D.length / 64)).length).2= true->E2.whole id= E.whole id:=λE2 e2 hb=>by rw [e2];exact (vr h.len hid _ _ hb).1
    cases hb:(E.iR id (k:Int) D).2 with
     | true =>
     have m:E.cD id (k:Int) D= 0:=by rw [o,hb];rfl
     have t:E.wr id (k:Int) D= (E.iR id (k:Int) D).1.put id (So.splice (E.whole id) D k):=by unfold En.wr;rw [if_pos m,GH]
     rw [m,t];have d:=hb;rw [p]at d;have hw:=j _ rfl d;rcases hid with rfl|⟨kk,u,e⟩;·
      refine (BV h 0 k (D.length / 64) D f x F y (by omega) C rfl rfl s (λE2 e2 hb=>by have:=j E2 e2 hb;unfold En.whole at this;rw [if_pos rfl,if_pos rfl]at this;rw [this];have:=z f;unfold En.whole at this;rwa [if_pos rfl]at this)).mono ?_;rintro r w' (⟨_,rfl,v⟩|⟨l,_⟩);· refine ⟨rfl,?_⟩;rw [p];unfold En.put;rw [if_pos rfl,<-hw];exact v
      ·rw [d]at l;cases l
     ·have ek:(id - 1).toNat= kk:=by omega
      refine (BZ h id kk u e k (D.length / 64) D f x F y (by omega) C rfl s (λE2 e2 hb=>by have:=j E2 e2 hb;unfold En.whole at this;rw [if_neg (by omega),if_neg (by omega),ek]at this;rw [this];have:=z f;unfold En.whole at this;rwa [if_neg (by omega),ek]at this)).mono ?_;rintro r w' (⟨_,rfl,v⟩|⟨l,_⟩);·
       refine ⟨rfl,?_⟩;rw [p];unfold En.put;rw [if_neg (by omega),ek,<-hw];have J:(au E id (Em.split E.g k (D.length / 64)) (Em.split E.g k (D.length / 64)).length).1.whole id= ((au E id (Em.split E.g k (D.length / 64)) (Em.split E.g k (D.length / 64)).length).1.one kk).b:=by unfold En.whole;rw [if_neg (by omega),ek]
       rw [J];exact v
      ·rw [d]at l;cases l
     | false =>
     have m:E.cD id (k:Int) D= 162:=by rw [o,hb];rfl
     have t:E.wr id (k:Int) D= (E.iR id (k:Int) D).1:=by unfold En.wr;rw [m,if_neg (by decide),if_pos ⟨f,rfl⟩]
     rw [m,t];have d:=hb;rw [p]at d;rcases hid with rfl|⟨kk,u,e⟩;·
      refine (BV h 0 k (D.length / 64) D f x F y (by omega) C rfl rfl s (λE2 e2 hb=>by rw [d]at hb;cases hb)).mono ?_;rintro r w' (⟨l,_⟩|⟨_,rfl,v⟩);· rw [d]at l;cases l
      ·exact ⟨rfl,v⟩
     ·refine (BZ h id kk u e k (D.length / 64) D f x F y (by omega) C rfl s (λE2 e2 hb=>by rw [d]at hb;cases hb)).mono ?_;rintro r w' (⟨l,_⟩|⟨_,rfl,v⟩);· rw [d]at l;cases l
      ·exact ⟨rfl,v⟩
   ·have G:E.jV a D= false:=by
     unfold En.jV;by_cases c:0<=a;· have:¬a+ ((D.length / 64:Nat):Int)<=(E.n:Int):=λc2=>A ⟨c,c2⟩;rw [decide_eq_false this,UX]
     ·rw [decide_eq_false c,T5]
    have o:E.cD id a D= 2:=by unfold En.cD;rw [if_neg (by rw [f];decide),if_neg (by omega),G,if_pos rfl]
    have t:E.wr id a D= E:=by unfold En.wr;rw [o,if_neg (by decide),if_neg (λc=>absurd c.2 (by decide))]
    rw [o,t];refine zg (Qn h id a D (D.length / 64) f x (by omega) y I A) λw' hb=>?_;exact ⟨rfl,aT.ax h hb⟩
  ·have o:E.cD id a D= 1:=by unfold En.cD;rw [if_neg (by rw [f];decide),if_pos H]
   have t:E.wr id a D= E:=by unfold En.wr;rw [o,if_neg (by decide),if_neg (λc=>absurd c.2 (by decide))]
   rw [o,t];refine zg (Qm h id a D f y H) λw' hb=>?_;exact ⟨rfl,aT.ax h hb⟩
 ·have o:E.cD id a D= E.usable id:=by unfold En.cD;rw [if_pos f]
  have t:E.wr id a D= E:=by unfold En.wr;rw [o,if_neg f,if_neg (λc=>f c.1)]
  rw [o,t];refine zg (Ql h id a _ f) λw' hb=>?_;exact ⟨rfl,aT.ax h hb⟩
end Sn
namespace Se
theorem Qs {W d1 d2:zL} {a m:Nat} (h1:d1.length= 64*m) (d:64* (a+m) +d2.length<=W.length):So.splice (So.splice W d1 a) d2 (a+m)= So.splice W (d1 ++ d2) a:=by
 unfold So.splice;have c:(W.take (64*a)).length= 64*a:=by rw [E4];omega
 have b:(W.take (64*a) ++ d1).length= 64* (a+m):=by rw [DC,c,h1];omega
 rw [show W.take (64*a) ++ d1 ++ W.drop (64*a+d1.length)= (W.take (64*a) ++ d1) ++ W.drop (64*a+d1.length) from rfl];rw [List.take_append_of_le_length (by rw [b];exact nm _),OP (by rw [b];exact nm _)];rw [List.drop_append,List.drop_of_length_le (by rw [b];omega),List.nil_append,b,Uu,DC];simp only [NR];congr 3;congr 1;omega
theorem Qt {W:zL} {a:Nat}:So.splice W [] a= W:=by unfold So.splice;simp
variable{id:Int}
theorem Qu {X:Sn.En} (b:X.s.length= 16) (a:id= 0\/∃k:Nat,k<16/\id= (k:Int) +1):X.put id (X.whole id)= X:=by
 unfold Sn.En.put Sn.En.whole;rcases a with rfl|⟨k,hk,e⟩;· rw [if_pos rfl,if_pos rfl];rfl
 ·rw [if_neg (by omega),if_neg (by omega),show (id - 1).toNat= k by omega];exact Sn.vm (by omega)
theorem Qv (X:Sn.En) (b:zL) (c:Nat):(X.dF b).save c= (X.save c).dF b:=by
 have key:∀k,Sn.aq (X.dF b) c k= (Sn.aq X c k).dF b:=by intro k;induction k with
  | zero=>rfl
  | succ k ih => show (if ((X.dF b).one k).s= 1/\((X.dF b).one k).inv= false then (Sn.aq (X.dF b) c k).set k (((X.dF b).one k).place c).1 else Sn.aq (X.dF b) c k)= (if (X.one k).s= 1/\(X.one k).inv= false then (Sn.aq X c k).set k ((X.one k).place c).1 else Sn.aq X c k).dF b;rw [ih];show (if (X.one k).s= 1/\(X.one k).inv= false then ((Sn.aq X c k).dF b).set k ((X.one k).place c).1 else _)= _;split<;>rfl
 exact key 16
theorem Qw (X:Sn.En) (b:zL) (c:Nat):(X.dF b).own c= X.own c:=rfl
theorem B_ (X:Sn.En) (b:zL):X.put 0 b= X.dF b:=by unfold Sn.En.put;rw [if_pos rfl]
variable{kk:Nat}
theorem Ca (e:id= (kk:Int) +1) (X:Sn.En) (b:zL):X.put id b= X.set kk {X.one kk with b:=b}:=by unfold Sn.En.put;rw [if_neg (by omega),show (id - 1).toNat= kk by omega]
theorem Qx (X:Sn.En) (b:zL) (x:Em.Pc) (d:zL):(X.dF b).piece 0 x d= ((if X.own x.c= true then X.save x.c else X).dF (So.splice b d (Sn.kH X x)),true):=by unfold Sn.En.piece;rw [if_pos rfl,Qw];cases X.own x.c with
 | true=>rw [if_pos rfl,if_pos rfl,Qv];rfl
 | false=>rfl
theorem Qy (X:Sn.En) (c:Nat):X.bK 0 c= ((if X.own c= true then X.save c else X),true):=by unfold Sn.En.bK;rw [if_pos rfl]
theorem Qz (X:Sn.En) (c:Nat):(if X.own c= true then X.save c else X).g= X.g:=by
 by_cases h:X.own c= true;· rw [if_pos h];exact (Sn.uT X c 16).2.2.1
 ·rw [if_neg h]
theorem QA (e:id= (kk:Int) +1) (X:Sn.En) (c:Nat):X.bK id c= (X.set kk ((X.one kk).place c).1,((X.one kk).place c).2):=by unfold Sn.En.bK;rw [if_neg (by omega),show (id - 1).toNat= kk by omega]
theorem QB (x:Sn.One) (b:zL) (c:Nat):({x with b:=b}:Sn.One).place c= if (x.place c).2= true then ({(x.place c).1 with b:=b},true) else ((x.place c).1,false):=by
 unfold Sn.One.place;show (if (Tb.find x.t (c:Int)).isSome= true then _ else _)= _;by_cases h:(Tb.find x.t (c:Int)).isSome= true;· rw [if_pos h,if_pos h,if_pos rfl]
 ·rw [if_neg h,if_neg h];cases hg:Tb.bn x.t with
  | some i=>rfl
  | none=>rfl
theorem QC (e:id= (kk:Int) +1) {X:Sn.En} (g:X.s.length= 16) (f:kk<16) (b:zL) (x:Em.Pc) (d:zL):(X.set kk {X.one kk with b:=b}).piece id x d= if ((X.one kk).place x.c).2= true then (X.set kk {((X.one kk).place x.c).1 with b:=So.splice b d (Sn.kH X x)},true) else (X.set kk ((X.one kk).place x.c).1,false):=by
 have a:(X.set kk {X.one kk with b:=b}).one kk= {X.one kk with b:=b}:=by rw [Sn.jt g f,if_pos rfl]
 unfold Sn.En.piece;rw [if_neg (by omega),show (id - 1).toNat= kk by omega,a,QB];cases hc:((X.one kk).place x.c).2 with
  | true=>rw [if_pos rfl,if_pos rfl,Sn.set_set];rfl
  | false=>simp only [Bool.false_eq_true,if_false,Sn.set_set]
theorem Cb {D:Sn.En} {E:En} (A:D.g= E.g) (x:D.s.length= 16) {id:Int} (h:id= 0∨∃k:Nat,k<16∧id= (k:Int) +1) {ps:List Em.Pc} {a m:Nat} (hp:rn E ps a m) {d:zL} (hd:d.length= 64*m) (hw:(D.whole id).length= 64*E.n) (y:a+m≤E.n):
    ∀k,k≤ps.length→(dP D id ps d k).2= (Sn.au D id ps k).2∧((Sn.au D id ps k).2= true→(dP D id ps d k).1= (Sn.au D id ps k).1.put id (So.splice (D.whole id) (d.take (64*bW ps k)) a)∧(Sn.au D id ps k).1.g= D.g)∧((Sn.au D id ps k).2= false→(dP D id ps d k).1= (Sn.au D id ps k).1)
  | 0, _ => by
    refine ⟨rfl,fun _=>⟨?_,rfl⟩,fun c=>(by cases c)⟩
    show D= D.put id (So.splice (D.whole id) (d.take 0) a)
    rw [List.take_zero,Qt,Qu x h]
  | k + 1, hk => by
    obtain ⟨v,H,G⟩:=Cb A x h hp hd hw y k (by omega)
    have t:dP D id ps d (k+1)= if (dP D id ps d k).2= true then (dP D id ps d k).1.piece id (ps.getD k ⟨0,0,0⟩) (eX ps d k) else dP D id ps d k:=rfl
    have r:Sn.au D id ps (k+1)= if (Sn.au D id ps k).2= true then (Sn.au D id ps k).1.bK id (ps.getD k ⟨0,0,0⟩).c else Sn.au D id ps k:=rfl
    have z:ps.getD k ⟨0,0,0⟩= ps[k]:=by rw [FU,C1 (by omega)];rfl
    obtain ⟨K,J,C,I⟩:=hp.pc k (by omega)
    cases hs:(Sn.au D id ps k).2 with
    | false =>
      rw [v,hs,if_neg (by decide)]at t
      rw [hs,if_neg (by decide)]at r
      rw [t,r]
      exact ⟨v,fun c=>absurd (hs.symm.trans c) (by decide),fun _=>G hs⟩
    | true =>
      obtain ⟨F,j⟩:=H hs
      obtain ⟨w1,w2⟩:=Sn.vr x h ps k hs
      rw [v,hs,if_pos rfl,z,F]at t
      rw [hs,if_pos rfl,z]at r
      have p:=Bb hd hp.all (k:=k) (by omega) (by omega)
      have i:∀X:Sn.En,X.g= D.g→Sn.kH X ps[k]= a+bW ps k:=fun X u=>by unfold Sn.kH;rw [u,A];exact C
      have w:(d.take (64*bW ps k)).length= 64*bW ps k:=by rw [E4];omega
      have q:d.take (64*bW ps k) ++ eX ps d k= d.take (64*bW ps (k+1)):=by
        unfold eX
        rw [z,oN (by omega),Nat.mul_add,List.take_add]
      have f:So.splice (So.splice (D.whole id) (d.take (64*bW ps k)) a) (eX ps d k) (a+bW ps k)= So.splice (D.whole id) (d.take (64*bW ps (k+1))) a:=by
        rw [Qs w (by rw [hw,p];omega),q]
      obtain ⟨X,u⟩:=eX1 ((Sn.au D id ps k).1)
      obtain ⟨b,B⟩:=eX1 (So.splice (D.whole id) (d.take (64*bW ps k)) a)
      rw [←u,←B]at t
      rw [←u]at r j w2
      rw [←B]at f
      rw [t,r]
      rcases h with rfl|⟨kk,l,e⟩
      · rw [B_,Qx,Qy,i X j,f]
        have o:=(Qz X ps[k].c).trans j
        generalize (if X.own ps[k].c= true then X.save ps[k].c else X)= Y at o⊢
        refine ⟨rfl,fun _=>⟨?_,o⟩,fun c=>(by cases c)⟩
        dsimp only
        rw [B_]
      · rw [Ca e,QC e w2 l,QA e,i X j,f]
        cases hc:((X.one kk).place ps[k].c).2 with
        | true =>
          rw [if_pos rfl]
          refine ⟨rfl,fun _=>⟨?_,j⟩,fun c=>(by cases c)⟩
          rw [Ca e,Sn.set_set,Sn.jt w2 l,if_pos rfl]
        | false =>
          rw [if_neg (by decide)]
          exact ⟨rfl,fun c=>(by cases c),fun _=>rfl⟩
end Se
end
section
namespace Se
open Go.RowKit
theorem ij (w:World) (xs ys:Array Value) (T U:TypeId) (W0:World) (h:(w.alloc (hV xs T)).alloc (hV ys U)= W0): zB w W0/\W0.heap[w.heap.size]?= some (hV xs T (0,0))/\W0.heap[w.heap.size+1]?= some (hV ys U (0,0)):=by
 subst h;have h1:=heap_alloc_new w (hV xs T);have a:=heap_alloc_new (w.alloc (hV xs T)) (hV ys U);have b:(w.alloc (hV xs T)).heap.size= w.heap.size+1:=by simp
 rw [b]at a;have c:Below (w.heap.size+1) (w.alloc (hV xs T)) ((w.alloc (hV xs T)).alloc (hV ys U)):=zR.alloc (by simp) _;exact ⟨(zA).alloc (by simp) _,(c.block w.heap.size (by omega)).trans h1,a⟩
theorem QE (a n g:Int) (w:World):zF 95 #[zO a n g,zI 0] w (zJ (zO a n g) w):=by
 have NE:=hT (λw1=>iI w1);obtain ⟨d,e⟩:=eX2 ((w.alloc (zK a n g 23)).alloc (zK 0 0 0 23));obtain ⟨f,c,b⟩:=ij w _ _ _ _ d e;have i:=hT f;have h:=hT b;have q:d.cell? (zz w 0)= some (zI a):=zW c;have b1:d.cell? (zz w 1)= some (zI n):=zW c;have b2:d.cell? (zz w 2)= some (zI g):=zW c;have o:d.cell? (zD (w.heap.size+1) 0)= some (zI 0):=zW b;have m:d.cell? (zD (w.heap.size+1) 1)= some (zI 0):=zW b;have l:d.cell? (zD (w.heap.size+1) 2)= some (zI 0):=zW b;have k:∀j,d.frozen? (zD (w.heap.size+1) j)= false:=λj=>frozen_of_row (j:=j) _ _ _ _ b;have hi:(prog.info? 23).map (·.size)= some (#[zI a,zI n,zI g]:Array Value).size:=by kernel_rfl
 clear f c b;go_enter func95,ntmps95;go_wp2_with fail;clear e;refine zh (NE.out _) ?_;go_wp2_with fail;refine bodyPost_ret (results_cell_row (p:=4) (ty:=23) rfl _ _ (w.heap.size+1) 23 _ (0,0) _ rfl (lq h.out _ _ _) underlying23 rfl hi) rfl ⟨rfl,km i.out (by omega) _ _ _⟩
theorem QF (a n g:Int) (w:World):zF 99 #[zO a n g,zI 0] w (zJ (zO a n g) w):=by
 have NE:=hT (λw1=>dv w1);obtain ⟨d,e⟩:=eX2 ((w.alloc (zK a n g 85)).alloc (zK 0 0 0 85));obtain ⟨f,c,b⟩:=ij w _ _ _ _ d e;have i:=hT f;have h:=hT b;have q:d.cell? (zz w 0)= some (zI a):=zW c;have b1:d.cell? (zz w 1)= some (zI n):=zW c;have b2:d.cell? (zz w 2)= some (zI g):=zW c;have o:d.cell? (zD (w.heap.size+1) 0)= some (zI 0):=zW b;have m:d.cell? (zD (w.heap.size+1) 1)= some (zI 0):=zW b;have l:d.cell? (zD (w.heap.size+1) 2)= some (zI 0):=zW b;have k:∀j,d.frozen? (zD (w.heap.size+1) j)= false:=λj=>frozen_of_row (j:=j) _ _ _ _ b;have hi:(prog.info? 85).map (·.size)= some (#[zI a,zI n,zI g]:Array Value).size:=by kernel_rfl
 clear f c b;go_enter func99,ntmps99;go_wp2_with fail;clear e;refine zh (NE.out _) ?_;go_wp2_with fail;refine bodyPost_ret (results_cell_row (p:=4) (ty:=85) rfl _ _ (w.heap.size+1) 85 _ (0,0) _ rfl (lq h.out _ _ _) underlying85 rfl hi) rfl ⟨rfl,km i.out (by omega) _ _ _⟩
theorem QG (t a n g:Int) (w:World):zF 102 #[.agg #[zI t,zI a,zI n,zU g],zI 0] w (zJ (.agg #[zI t,zI a,zI n,zU g]) w):=by
 have NE:=hT (λw1=>iI w1);obtain ⟨d,e⟩:=eX2 ((w.alloc (hV #[zI t,zI a,zI n,zU g] 68)).alloc (hV #[zI 0,zI 0,zI 0,zU 0] 68));obtain ⟨f,c,b⟩:=ij w _ _ _ _ d e;have i:=hT f;have h:=hT b;have r:d.cell? (zz w 0)= some (zI t):=zW c;have b1:d.cell? (zz w 1)= some (zI a):=zW c;have b2:d.cell? (zz w 2)= some (zI n):=zW c;have b3:d.cell? (zz w 3)= some (zU g):=zW c;have q:d.cell? (zD (w.heap.size+1) 0)= some (zI 0):=zW b;have o:d.cell? (zD (w.heap.size+1) 1)= some (zI 0):=zW b;have m:d.cell? (zD (w.heap.size+1) 2)= some (zI 0):=zW b;have l:d.cell? (zD (w.heap.size+1) 3)= some (zU 0):=zW b;have k:∀j,d.frozen? (zD (w.heap.size+1) j)= false:=λj=>frozen_of_row (j:=j) _ _ _ _ b;have hi:(prog.info? 68).map (·.size)= some (#[zI t,zI a,zI n,zU g]:Array Value).size:=by kernel_rfl
 clear f c b;go_enter func102,ntmps102;go_wp2_with fail;clear e;refine zh (NE.out _) ?_;go_wp2_with fail;refine bodyPost_ret (results_cell_row (p:=4) (ty:=68) rfl _ _ (w.heap.size+1) 68 _ (0,0) _ rfl (dc h.out _ _ _ _) underlying68 rfl hi) rfl ⟨rfl,dd i.out (by omega) _ _ _ _⟩
structure iS (w:World) (q:Nat) (d0:ae.Ob) (st:Dm.St):Prop where
 row:w.heap[q]?= some (hV (zeroCells93.setIfInBounds 3 (xb (some ⟨d0.p,0,none⟩))) 93 (0,0))
 dk:ae.Dk w d0 st
 qd:¬d0.fp q
variable{w:World}{q:Nat}{d0:ae.Ob}{st:Dm.St}
theorem iS.lt (h:iS w q d0 st):q<w.heap.size:=(DN.1 h.row).1
theorem iS.below {w':World} (h:iS w q d0 st) (hb:zB w w'):iS w' q d0 st:= ⟨(hb.block q h.lt).trans h.row,h.dk.same λk hk=>hb.block k (h.dk.lt k hk),h.qd⟩
theorem iS.cells (h:iS w q d0 st):w.cell? (zD q 0)= some (zI 0)/\w.cell? (zD q 1)= some (zI 0)/\w.cell? (zD q 2)= some (zI 0)/\w.cell? (zD q 3)= some (zP d0.p)/\w.cell? (zD q 4)= some (xb none)/\∀j,w.frozen? (zD q j)= false:= ⟨zW h.row,zW h.row,zW h.row,zW h.row,zW h.row,λj=>frozen_of_row (j:=j) _ _ _ _ h.row⟩
structure Laid (w:World) (q:Nat) (d0:ae.Ob) (st:Dm.St) (a n g:Int) (w1:World):Prop where
 fr:ae.Fr (λ k=>k= q) w w1
 row:w1.heap[q]?= some (hV ((((zeroCells93.setIfInBounds 3 (xb (some ⟨d0.p,0,none⟩))).setIfInBounds 0 (zI a)).setIfInBounds 1 (zI n)).setIfInBounds 2 (zI g)) 93 (0,0))
 dk:ae.Dk w1 d0 st
theorem Laid.below {w1 w2:World} {a n g:Int} (h:Laid w q d0 st a n g w1) (hb:zB w1 w2):Laid w q d0 st a n g w2:= ⟨h.fr.trans (ae.Fr.ax hb) λ_ _ h=>h,(hb.block q (DN.1 h.row).1).trans h.row,h.dk.same λk hk=>hb.block k (h.dk.lt k hk)⟩
theorem Laid.cells {w1:World} {a n g:Int} (h:Laid w q d0 st a n g w1):w1.cell? (zD q 0)= some (zI a)/\w1.cell? (zD q 1)= some (zI n)/\w1.cell? (zD q 2)= some (zI g)/\w1.cell? (zD q 3)= some (zP d0.p)/\w1.cell? (zD q 4)= some (xb none)/\∀j,w1.frozen? (zD q j)= false:= ⟨zW h.row,zW h.row,zW h.row,zW h.row,zW h.row,λj=>frozen_of_row (j:=j) _ _ _ _ h.row⟩
theorem iS.laid {w1:World} (h:iS w q d0 st) (c:zB w w1) (a n g:Int):Laid w q d0 st a n g (((w1.setCell ⟨q,0,none⟩ (zI a)).setCell ⟨q,1,none⟩ (zI n)).setCell ⟨q,2,none⟩ (zI g)):=by have b:ae.Fr (λk=>k= q) w (((w1.setCell ⟨q,0,none⟩ (zI a)).setCell ⟨q,1,none⟩ (zI n)).setCell ⟨q,2,none⟩ (zI g)):= ae.Fr.setCell (F:=λk=>k= q) (ae.Fr.setCell (F:=λk=>k= q) (ae.Fr.setCell (F:=λk=>k= q) (ae.Fr.ax c) ⟨q,0,none⟩ rfl _) ⟨q,1,none⟩ rfl _) ⟨q,2,none⟩ rfl _;refine ⟨b,?_,h.dk.keep b λk hk e=>h.qd (by rw [<-e];exact hk)⟩;rw [heap_setCell_same _ _ _ _ _ _ (heap_setCell_same _ _ _ _ _ _ (heap_setCell_same _ _ _ _ _ _ (h.below c).row))]
theorem QP (w:World) (q:Nat) (v:Value) {j:Nat} (h:j≠4):(w.setCell ⟨q,4,none⟩ v).cell? (zD q j)= w.cell? (zD q j):=VM w ⟨q,4,none⟩ ⟨q,j,none⟩ v (by simp;try exact h)
def cq (st:Dm.St) (i:Nat):zL:=Dm.aA st ((1:Int) + (i:Int)) 1
def oX (st:Dm.St) (i:Nat):Sn:=⟨Tm.ev (cq st i),Tm.bN (cq st i),Tm.bO (cq st i),Tm.aH (cq st i),⟨[], [],false⟩⟩
def gm (a n g:Nat) (st:Dm.St) (k:Nat):En:=⟨a,n,g,(MR 16).map λi=>if i<k then oX st i else Sn.none⟩
theorem QQ (a n g:Nat) (st:Dm.St) (k:Nat):(gm a n g st k).S.length= 16:=by show ((MR 16).map _).length= 16;rw [PN,Tw]
theorem vt (a n g:Nat) (st:Dm.St) (k:Nat) {i:Nat} (hi:i<16):(gm a n g st k).one i= if i<k then oX st i else Sn.none:=by unfold En.one gm;rw [FU,RI,Vl hi];rfl
theorem QR (a n g:Nat) (st:Dm.St) {k:Nat} (hk:k<16):(gm a n g st k).set k (oX st k)= gm a n g st (k+1):=by
 unfold En.set gm;congr 1;apply List.ext_getElem?;intro j;rw [List.getElem?_set,PN,Tw];by_cases c:j<16;·
  rw [RI,RI,Vl c];by_cases e:k= j;· subst e;rw [if_pos rfl,if_pos c];simp
  ·rw [if_neg e];by_cases b:j<k;· simp [b,show j<k+1 by omega]
   ·simp [b,show¬j<k+1 by omega]
 ·rw [RI,RI,Tv (by rw [Tw];omega)];first|rfl|(rw [if_neg (by omega)];rfl)
def zeroAt (j:Nat):Value:=if j<3 then zI 0 else if j<5 then xb none else if j<69 then dS Sn.none ((j - 5) % 4) else xb none
theorem QS:zeroCells93= (bh 85 zeroAt).toArray:=by kernel_rfl
variable{B:Eb}
theorem QT {w1:World} {a n g:Nat} (h:Laid w B.q B.d st (a:Int) (n:Int) (g:Int) w1) (hp:B.ptr= λ_=> xb none): Hd (w1.setCell ⟨B.q,4,none⟩ (zP B.oq)) B (gm a n g st 0):=by
 unfold Hd;rw [heap_setCell_same _ _ _ _ _ _ h.row];congr 2;apply Array.ext_getElem?;intro j;rw [show (bh 85 (cellAt B (gm a n g st 0))).toArray[j]?= (bh 85 (cellAt B (gm a n g st 0)))[j]? from Ud ..,jb];by_cases e:j<85;·
  rw [if_pos e];have k:∀i,i<16->(gm a n g st 0).one i= Sn.none:=λi hi=>by rw [vt _ _ _ _ _ hi,if_neg (by omega)]
  unfold cellAt cG;rw [hp];by_cases f:j<5;· rw [if_pos f];rcases (show j= 0\/j= 1\/j= 2\/j= 3\/j= 4 by omega) with rfl|rfl|rfl|rfl|rfl<;>rfl
  ·rw [if_neg f,VN (by omega),VN (by omega),VN (by omega),VN (by omega),VN (by omega)];have c:zeroCells93[j]?= some (zeroAt j):=by rw [QS,show (bh 85 zeroAt).toArray[j]?= (bh 85 zeroAt)[j]? from Ud ..,jb,if_pos e]
   rw [c];unfold zeroAt;rw [if_neg (by omega),if_neg f];by_cases b:j<69;· rw [if_pos b,if_pos b,k _ (by omega)]
   ·rw [if_neg b,if_neg b]
 ·rw [if_neg e];exact Array.getElem?_eq_none (by simp;show zeroCells93.size<=j;have:zeroCells93.size= 85:=rfl;omega)
structure ew (w:World) (B:Eb) (a n g:Nat) (st:Dm.St) (k:Nat) (wr:World):Prop where
 fr:ae.Fr (λ k=>k= B.q) w wr
 hd:Hd wr B (gm a n g st k)
 dk:ae.Dk wr B.d st
theorem ew.below {wr w1:World} {a n g:Nat} {k:Nat} (h:ew w B a n g st k wr) (hb:zB wr w1):ew w B a n g st k w1:= ⟨h.fr.trans (ae.Fr.ax hb) λ_ _ h=>h,h.hd.below hb,h.dk.below hb⟩
theorem ew.cells {wr:World} {a n g:Nat} {k:Nat} (h:ew w B a n g st k wr) (e:B.q= q) (e2:B.d= d0):wr.cell? (zD q 0)= some (zI a)/\wr.cell? (zD q 1)= some (zI n)/\wr.cell? (zD q 2)= some (zI g)/\wr.cell? (zD q 3)= some (zP d0.p):=by subst e e2;exact ⟨h.hd.low.1,h.hd.low.2.1,h.hd.low.2.2.1,h.hd.low.2.2.2.1⟩
theorem ew.slot {wr:World} {a n g:Nat} {k i:Nat} (h:ew w B a n g st k wr) (e:B.q= q) (hi:i<16):∃x:Sn,x= (gm a n g st k).one i/\wr.cell? ⟨q,5+i*4,none⟩= some (zI x.t)/\wr.cell? ⟨q,5+i*4+1,none⟩= some (zI x.st)/\wr.cell? ⟨q,5+i*4+2,none⟩= some (zI x.ln)/\wr.cell? ⟨q,5+i*4+3,none⟩= some (zU x.gen)/\∀j,wr.frozen? (zD q j)= false:=by subst e;obtain ⟨c0,c1,c2,c3⟩:=h.hd.slot hi;exact ⟨_,rfl,c0,c1,c2,c3,h.hd.ig⟩
theorem ew.next {wr:World} {a n g:Nat} {k:Nat} (h:ew w B a n g st k wr) (e:B.q= q) (c:¬B.d.fp q) (hk:k<16): ew w B a n g st (k+1) ((((wr.setCell ⟨q,5+k*4,none⟩ (zI (Tm.ev (cq st k):Int))).setCell ⟨q,5+k*4+1,none⟩ (zI (Tm.bN (cq st k):Int))).setCell ⟨q,5+k*4+2,none⟩ (zI (Tm.bO (cq st k):Int))).setCell ⟨q,5+k*4+3,none⟩ (zU (Tm.aH (cq st k):Int))):=by subst e;have h1:=h.hd.ll hk (QQ a n g st k) (oX st k);rw [QR a n g st hk,nR]at h1;have b:=qU B.q (bh 4 (dS (oX st k))) (5+k*4) wr;rw [nR]at b;exact ⟨h.fr.trans b λ_ _ h=>h,h1,h.dk.keep b λi hi e=>c (by rw [<-e];exact hi)⟩
end Se
end
section
namespace So
open Go.RowKit
def rO (p:Pa) (o:ae.Ob) (st:Dm.St) (w:World) (e:Ending) (w':World):Prop:=∃b,e= zV (zP b.q) (zI 0)/\Sk w' b p (gz (Dm.one st) p) st (fG p (Dm.one st))/\b.d= o/\(∀k,b.t.fp k->w.heap.size<=k)/\w.heap.size<=b.q/\zB w w'
theorem QU {w:World} {o:ae.Ob} {st:Dm.St} {p:Pa} (hp:p.Ok) (h:ae.Dk w o st) (hd:st.dead= false) (J:st.S.length= p.a) (U:st.P.length<=1099511627776) (A:dI p (Dm.one st)= 0): zF 109 #[zP o.p, zO p.a p.n p.g, zM p.st p.ln,zU p.gen] w (rO p o st w):=by
 obtain ⟨E,u⟩:=eX2 ((w.alloc (zK p.a p.n p.g 85)).alloc (zE p.st p.ln 65));have V:=uv w _ _ _ _ _ E u;obtain ⟨f,⟨a0,a1,a2,Y,b1⟩,_⟩:=V;have M:=hT f;have H:=hT (zt (h.below f) hp J);have AT:Hid (∀(b:Bk) (w1:World),Sk w1 b p false st (vw p.N (-1))->zF 159 #[.func (.func 160) #[zP b.q] #[]] w1 λe w'=>ae.Fr (λk=>k= b.q) w1 w'/\ ((dI p (Dm.one st)= 0/\e= nf (zI 0)/\∃b',Sk w' b' p (gz (Dm.one st) p) st (fG p (Dm.one st))/\b'.q= b.q/\b'.d= b.d/\∀k,b'.t.fp k->w1.heap.size<=k)\/(dI p (Dm.one st)= 165/\e= nf (zI 165)))):=hT λb w1 hk=>by
  obtain ⟨W,y⟩:=eX2 (w1.alloc (hV #[zI 0] 38));have f:zB w1 W:=by rw [<-y];exact zA
  have T:W.heap[w1.heap.size]?= some (hV #[zI 0] 38 (0,0)):=by rw [<-y];exact heap_alloc_new w1 _
  have R:W.heap.size= w1.heap.size+1:=by rw [<-y];simp
  have I:=hk.lt b.q (.inl rfl);refine (ky (Z:=λx w2=>ae.Fr (λk=>k= b.q) W w2/\((dI p (Dm.one st)= 0/\x= 0/\∃b',Sk w2 b' p (gz (Dm.one st) p) st (fG p (Dm.one st))/\b'.q= b.q/\b'.d= b.d/\∀k,b'.t.fp k->W.heap.size<=k)\/(dI p (Dm.one st)= 165/\x= 165))) (enters_of func160 (by kernel_rfl) rfl) ?_ ?_).mono ?_;· rintro x w2 ⟨j,_⟩;rw [j.block _ (by omega) (by omega),T]
  ·rw [y];refine (KL (hk.below f) hp hd J U).mono ?_;rintro e w2 ⟨j,⟨h1,rfl,z⟩|⟨h1,rfl⟩⟩;· exact ⟨0,rfl,j, .inl ⟨h1,rfl,z⟩⟩
   ·exact ⟨165,(aX (by decide)).symm,j, .inr ⟨h1,rfl⟩⟩
  ·rintro e w' ⟨x,w2,rfl,⟨D,Q⟩,r⟩;refine ⟨((ae.Fr.ax f:ae.Fr (λk=>k= b.q) w1 W).trans D (λ_ _ e=>e)).trans r (λk h1 z=>by omega),?_⟩;rcases Q with ⟨h1,rfl,b',C,z,L,K⟩|⟨h1,rfl⟩;·
    refine .inl ⟨h1,rfl,b',C.keep r λk c e=>?_,z,L,λk hk=>A6 f.size (K k hk)⟩;rcases c with c|c|c;· omega
    ·rw [L]at c;have:=hk.lt k (.inr (.inl c));omega
    ·have:=K k c;omega
   ·exact .inr ⟨h1,rfl⟩
 unfold qJ at H;have H0:=hT A;unfold rO;clear h f A;go_enter func109,ntmps109;go_wp2_with fail;clear u;refine H.out.mono ?_;rintro e w1 ⟨b,rfl,hk,hd,v,B,f⟩;have AB:=hT (AT.out b w1 hk);have O:=zT M f;have F:Hid (b.d= o/\E.heap.size<=b.q/\(∀k,b.t.fp k->E.heap.size<=k)):=hT ⟨hd,v,B⟩;clear f hk hd v B a0 a1 a2 Y b1 AT H;go_wp2_with fail;refine AB.out.mono ?_;rintro e w2 ⟨j,⟨h1,rfl,b2,m,i,s,l⟩|⟨h1,rfl⟩⟩;· have G:Hid (Sk w2 b2 p (gz (Dm.one st) p) st (fG p (Dm.one st))/\b2.d= o/\(∀k,b2.t.fp k->w.heap.size<=k)/\w.heap.size<=b2.q/\zB w w2):=hT (by obtain ⟨hd,v,B⟩:=F.out;have A:=M.out.size;have X:=O.out.size;refine ⟨m,by rw [s,hd],λk hk=>A6 X (l k hk),by rw [i];exact A6 A v,?_⟩;exact ((ae.Fr.ax O.out:ae.Fr (λk=>k= b.q) w w1).trans j λk hk e=>e).below (nm _) λk e=>by have e:=e;omega);have HQ:=hT i;clear j m i s l h1;go_wp2_with fail;go_ret2;exact ⟨b2,by rw [HQ.out];rfl,G.out⟩
 ·have:=H0.out;omega
end So
end
section
namespace Se
open Go.RowKit
def iT (E:En):Nat->Nat
 | 0=>0
 | k+1=>iT E k+if (E.one k).t= 2 then 1 else 0
variable{E:En}
theorem Ck (h:∀i j,i<16→j<16→(E.one i).t= 2→(E.one j).t= 2→i= j):∀k,k≤16→iT E k≤1∧((∀i,i<k→(E.one i).t≠2)→iT E k= 0)
  | 0,_=>⟨yb _,fun _=>rfl⟩
  | k + 1, hk => by
    obtain ⟨a,b⟩:=Ck h k (by omega)
    have e:iT E (k+1)= iT E k+if (E.one k).t= 2 then 1 else 0:=rfl
    by_cases c:(E.one k).t= 2
    · have:=b fun i hi ht=>by have:=h i k (by omega) (by omega) ht c;omega
      rw [e,if_pos c,this]
      exact ⟨nm _,fun hn=>absurd c (hn k (by omega))⟩
    · rw [e,if_neg c]
      exact ⟨a,fun hn=>b fun i hi=>hn i (by omega)⟩
structure jW (E:En) (st:Dm.St):Prop where
 len:E.S.length= 16
 aj:Um.aj (E.a:Int) (E.n:Int) (E.g:Int)= true
 dE:st.dead= false
 dK:st.S.length= E.a
 bQ:st.P.length<=68719476736
 sup:Dm.one st 0= Um.ah (E.a:Int) (E.n:Int) (E.g:Int)
 slot:∀i,i<16->Dm.one st (1+i)= Tm.ah ((E.one i).t:Int) ((E.one i).st:Int) ((E.one i).ln:Int) (E.one i).gen
 ok:∀i,i<16->Tm.bp ((E.one i).t:Int) ((E.one i).st:Int) ((E.one i).ln:Int) (E.one i).gen= true/\(E.one i).gen<4294967296
 pa:∀i,i<16->(E.one i).t≠0->(E.pa i).Ok
 small:Xm.In E.bB E.bB.length
 used:Xm.aU (17+ (E.n:Int)) ((E.a:Int) - (17+ (E.n:Int))) E.bB= true
 two:iT E 16<=1
 opened:∀i,i<16->(E.one i).t≠0->So.dI (E.pa i) (Dm.one st)= 0/\So.gz (Dm.one st) (E.pa i)= (E.one i).M.inv/\So.fG (E.pa i) (Dm.one st)= (E.one i).M.aK
 val:E.al≠0->(E.one (E.al - 1)).M.inv= false
variable{st:Dm.St}
theorem Cl (hd:st.dead= false) {k:Nat} (hk:k<st.S.length):Dm.aY st (k:Int) 1= 0/\Dm.aA st (k:Int) 1= Dm.one st k:=by
 have a:Dm.dn st (k:Int) 1:=by rw [Dm.fb];omega
 refine ⟨by unfold Dm.aY;rw [hd,a];rfl,?_⟩;unfold Dm.aA;rw [hd,a,GH];show Dm.span st k (0+1)= _;rw [Dm.sj];simp [Dm.span]
theorem jW.sec (h:jW E st) {i:Nat} (hi:i<16):Dm.aY st ((1:Int) + (i:Int)) 1= 0/\cq st i= Tm.ah ((E.one i).t:Int) ((E.one i).st:Int) ((E.one i).ln:Int) (E.one i).gen:=by
 have:=Um.cT h.aj;have c:=h.dK;obtain ⟨a,b⟩:=Cl h.dE (k:=1+i) (by omega);have e:((1+i:Nat):Int)= (1:Int) + (i:Int):=by omega
 rw [e]at a b;refine ⟨a,?_⟩;unfold cq;rw [b,h.slot i hi]
theorem jW.dec (h:jW E st) {i:Nat} (hi:i<16):Tm.av (cq st i)= 0/\Tm.ev (cq st i)= (E.one i).t/\Tm.bN (cq st i)= (E.one i).st/\Tm.bO (cq st i)= (E.one i).ln/\Tm.aH (cq st i)= (E.one i).gen:=by obtain ⟨h1,f⟩:=h.ok i hi;have:=Tm.back _ _ _ _ f h1;rw [<-(h.sec hi).2]at this;obtain ⟨a,b,c,d,e⟩:=this;exact ⟨a,by omega,by omega,by omega,e⟩
variable{w:World}{B:Eb}
theorem Hd.congr {E':En} (h:Hd w B E) (e:E'.a= E.a/\E'.n= E.n/\E'.g= E.g) (d:∀i,i<16->(E'.one i).t= (E.one i).t/\(E'.one i).st= (E.one i).st/\(E'.one i).ln= (E.one i).ln/\(E'.one i).gen= (E.one i).gen):Hd w B E':=by
 unfold Hd;rw [show w.heap[B.q]?= _ from h];congr 3;refine nQ λj hj=>?_;obtain ⟨a1,a2,a3⟩:=e;unfold cellAt pY cG;by_cases c:j<5;· rw [if_pos c,if_pos c,a1,a2,a3]
 ·rw [if_neg c,if_neg c];by_cases b:j<69;· rw [if_pos b,if_pos b];obtain ⟨b1,b2,b3,b4⟩:=d ((j - 5) / 4) (by omega);unfold dS;rw [b1,b2,b3,b4]
  ·rw [if_neg b,if_neg b]
theorem jW.hd (h:jW E st) {w:World} {B:Eb} {a n g:Nat} (j:E.a= a/\E.n= n/\E.g= g) (f:Hd w B (gm a n g st 16)):Hd w B E:=by refine f.congr j λi hi=>?_;rw [vt _ _ _ _ _ hi,if_pos hi];obtain ⟨_,b,c,d,e⟩:=h.dec hi;exact ⟨b.symm,c.symm,d.symm,e.symm⟩
structure gn (w:World) (B:Eb) (a n g:Nat) (st:Dm.St) (k:Nat) (wr:World):Prop where
 at_:ew w B a n g st k wr
 aF:Og.Gk wr ⟨B.oq,B.d⟩ n g st
 oq:w.heap.size<=B.oq
 gY:B.q<w.heap.size
variable{wr:World}{k:Nat}
theorem gn.below {w1:World} {a n g:Nat} (h:gn w B a n g st k wr) (hb:zB wr w1):gn w B a n g st k w1:=⟨h.at_.below hb,h.aF.below hb,h.oq,h.gY⟩
variable{q:Nat}{d0:ae.Ob}
theorem gn.cells {a n g:Nat} (h:gn w B a n g st k wr) (e:B.q= q) (e2:B.d= d0):wr.cell? (zD q 0)= some (zI a)/\wr.cell? (zD q 1)= some (zI n)/\wr.cell? (zD q 2)= some (zI g)/\wr.cell? (zD q 3)= some (zP d0.p):=h.at_.cells e e2
theorem gn.slot {a n g:Nat} {i:Nat} (h:gn w B a n g st k wr) (e:B.q= q) (hi:i<16):∃x:Sn,x= (gm a n g st k).one i/\wr.cell? ⟨q,5+i*4,none⟩= some (zI x.t)/\wr.cell? ⟨q,5+i*4+1,none⟩= some (zI x.st)/\wr.cell? ⟨q,5+i*4+2,none⟩= some (zI x.ln)/\wr.cell? ⟨q,5+i*4+3,none⟩= some (zU x.gen)/\∀j,wr.frozen? (zD q j)= false:=h.at_.slot e hi
theorem oY {n g:Nat} {o:Nat} {v:Value} (h:Og.Gk w ⟨B.oq,B.d⟩ n g st) (e:B.q= q) (f:¬B.d.fp q) (b:q≠B.oq):Og.Gk (w.setCell ⟨q,o,none⟩ v) ⟨B.oq,B.d⟩ n g st:= h.same λj a=>heap_setCell_other _ _ _ _ λc=>by
 have c:j= q:=c;rcases a with a|a;· have a:j= B.oq:=a;exact b (by rw [<-c,a])
 ·exact f (by rw [<-c];exact a)
theorem gn.next {a n g:Nat} (h:gn w B a n g st k wr) (e:B.q= q) (b:¬B.d.fp q) (hk:k<16): gn w B a n g st (k+1) ((((wr.setCell ⟨q,5+k*4,none⟩ (zI (Tm.ev (cq st k):Int))).setCell ⟨q,5+k*4+1,none⟩ (zI (Tm.bN (cq st k):Int))).setCell ⟨q,5+k*4+2,none⟩ (zI (Tm.bO (cq st k):Int))).setCell ⟨q,5+k*4+3,none⟩ (zU (Tm.aH (cq st k):Int))):=by
 have c:q≠B.oq:=by have:=h.oq;have:=h.gY;omega
 exact ⟨h.at_.next e b hk,oY (oY (oY (oY h.aF e b c) e b c) e b c) e b c,h.oq,h.gY⟩
structure dY (w:World) (B:Eb) (E:En) (st:Dm.St) (k:Nat) (wr:World):Prop where
 fr:ae.Fr (λ k=>k= B.q) w wr
 gY:B.q<w.heap.size
 hd:Hd wr B E
 aF:Og.Gk wr ⟨B.oq,B.d⟩ E.n E.g st
 oq:w.heap.size<=B.oq
 rP:∀k,B.d.fp k->k<w.heap.size
 qd:¬B.d.fp B.q
 ptr:∀i,i<16->B.ptr i= if i<k/\(E.one i).t≠0 then xb (some ⟨B.sq i,0,none⟩) else xb none
 sk:∀i,i<k->i<16->(E.one i).t≠0->So.Sk wr (B.bk i) (E.pa i) (E.one i).M.inv st (E.one i).M.aK
 new:∀i,i<k->i<16->(E.one i).t≠0->w.heap.size<=B.sq i/\(∀k,(B.sT i).fp k->w.heap.size<=k)/\B.sq i≠B.oq/\¬(B.sT i).fp B.oq
 ap:∀i j,i<k->j<k->i<16->j<16->i≠j->(E.one i).t≠0->(E.one j).t≠0->So.Aside (B.bk i) (B.bk j)
theorem dY.below {w1:World} (h:dY w B E st k wr) (hb:zB wr w1):dY w B E st k w1:= ⟨h.fr.trans (ae.Fr.ax hb) λ_ _ h=>h,h.gY,h.hd.below hb,h.aF.below hb,h.oq,h.rP,h.qd,h.ptr,λi hi h16 h0=>(h.sk i hi h16 h0).below hb,h.new,h.ap⟩
theorem dY.low (h:dY w B E st k wr) (e:B.q= q) (e2:B.d= d0):wr.cell? (zD q 0)= some (zI E.a)/\wr.cell? (zD q 1)= some (zI E.n)/\wr.cell? (zD q 2)= some (zI E.g)/\wr.cell? (zD q 3)= some (zP d0.p):=by subst e e2;exact ⟨h.hd.low.1,h.hd.low.2.1,h.hd.low.2.2.1,h.hd.low.2.2.2.1⟩
theorem dY.at {i:Nat} (h:dY w B E st k wr) (e:B.q= q) (hi:i<16):∃v,wr.cell? ⟨q,69+i,none⟩= some v/\∀j,wr.frozen? (zD q j)= false:=by subst e;exact ⟨_,h.hd.ptr hi,h.hd.ig⟩
theorem dY.skip (h:dY w B E st k wr) (a:(E.one k).t= 0):dY w B E st (k+1) wr:=by
 have key:∀i,i<k+1->(E.one i).t≠0->i<k:=λi hi hn=>by have:i≠k:=λe=>hn (by rw [e];exact a);omega
 refine ⟨h.fr,h.gY,h.hd,h.aF,h.oq,h.rP,h.qd,λi hi=>?_,λi hi h16 hn=>h.sk i (key i hi hn) h16 hn,λi hi h16 hn=>h.new i (key i hi hn) h16 hn,λi j hi hj h16 h17 hij h1 h2=>h.ap i j (key i hi h1) (key j hj h2) h16 h17 hij h1 h2⟩;rw [h.ptr i hi];by_cases c:(E.one i).t= 0;· rw [if_neg λhh=>hh.2 c,if_neg λhh=>hh.2 c]
 ·by_cases d:i<k;· rw [if_pos ⟨d,c⟩,if_pos ⟨by omega,c⟩]
  ·rw [if_neg λhh=>d hh.1,if_neg λhh=>d (key i hh.1 c)]
def Eb.put (B:Eb) (k bq:Nat) (t:Tb.Ob):Eb:={B with sq:=λi=>if i= k then bq else B.sq i,sT:=λi=>if i= k then t else B.sT i,ptr:=λi=>if i= k then (zP bq) else B.ptr i}
theorem QV (B:Eb) (k bq:Nat) (t:Tb.Ob) (i:Nat):(B.put k bq t).bk i= if i= k then ⟨bq,B.d,t⟩ else B.bk i:=by unfold Eb.put Eb.bk;by_cases e:i= k<;>simp [e]
theorem dY.next {w2:World} (h:dY w B E st k wr) (hk:k<16) (v:(E.one k).t≠0) {b:So.Bk} (u:zB wr w2) (r:So.Sk w2 b (E.pa k) (E.one k).M.inv st (E.one k).M.aK) (hd:b.d= B.d) (l:∀k,b.t.fp k→wr.heap.size≤k) (y:wr.heap.size≤b.q):
    dY w (B.put k b.q b.t) E st (k+1) (w2.setCell ⟨B.q,69+k,none⟩ (zP b.q)):=by
  have o:=h.below u
  have m:=h.fr.size
  have s:=ti h.gY m
  have f:ae.Fr (fun j=>j= B.q) w2 (w2.setCell ⟨B.q,69+k,none⟩ (zP b.q)):=ae.Fr.setCell (F:=fun j=>j= B.q) (ae.Fr.refl _ _) ⟨B.q,69+k,none⟩ rfl _
  have n:=h.aF.lt B.oq (.inl rfl)
  have bk:=QV B k b.q b.t
  have key:∀i,i<k+1→i≠k→i<k:=fun i hi hn=>by omega
  have x:(⟨b.q,B.d,b.t⟩:So.Bk)= b:=by cases b;simp at hd;subst hd;rfl
  refine ⟨o.fr.trans f fun _ _ h=>h,h.gY,?_,?_,h.oq,h.rP,h.qd,fun i hi=>?_,fun i hi h16 hn=>?_,fun i hi h16 hn=>?_,fun i j hi a h16 h17 hij hn1 hn2=>?_⟩
  · have:=o.hd.mw hk (zP b.q)
    exact this
  · exact o.aF.same fun j a=>f.block j (o.aF.lt j a) fun e=>by
      rcases a with a|a
      · have:j= B.oq:=a
        have:=h.oq
        have:=h.gY
        omega
      · exact h.qd (by rw [←e];exact a)
  · show (if i= k then _ else B.ptr i)= if i<k+1∧(E.one i).t≠0 then xb (some ⟨if i= k then b.q else B.sq i,0,none⟩) else _
    by_cases e:i= k
    · subst e
      rw [if_pos rfl,if_pos ⟨by omega,v⟩,if_pos rfl]
    · rw [if_neg e,if_neg e,h.ptr i hi]
      by_cases c:i<k∧(E.one i).t≠0
      · rw [if_pos c,if_pos ⟨by omega,c.2⟩]
      · rw [if_neg c,if_neg fun hh=>c ⟨key i hh.1 e,hh.2⟩]
  · rw [bk i]
    split
    · rename_i e
      subst e
      rw [x]
      refine r.keep f fun j a e=>?_
      have e:=e
      rcases a with a|a|a
      · omega
      · rw [hd]at a;exact h.qd (by rw [←e];exact a)
      · have:=l j a;omega
    · rename_i e
      refine (o.sk i (key i hi e) h16 hn).keep f fun j a g=>?_
      have g:=g
      obtain ⟨n1,p,_,_⟩:=h.new i (key i hi e) h16 hn
      have:=h.gY
      rcases a with a|a|a
      · have a:j= B.sq i:=a
        omega
      · have a:B.d.fp j:=a
        exact h.qd (by rw [←g];exact a)
      · have:=p j a;omega
  · show w.heap.size≤(if i= k then b.q else B.sq i)∧(∀j,(if i= k then b.t else B.sT i).fp j→_)∧(if i= k then b.q else B.sq i)≠B.oq∧¬(if i= k then b.t else B.sT i).fp B.oq
    by_cases e:i= k
    · rw [if_pos e,if_pos e]
      have n:=n
      exact ⟨by omega,fun j a=>A6 m (l j a),by omega,fun c=>by have:=l _ c;omega⟩
    · rw [if_neg e,if_neg e]
      exact h.new i (key i hi e) h16 hn
  · have fresh:∀i,i<k→i<16→(E.one i).t≠0→So.Aside (B.bk i) ⟨b.q,B.d,b.t⟩:=fun i hi h16 hn=>by
      have sk:=h.sk i hi h16 hn
      have lt:=sk.lt
      refine ⟨rfl,fun e=>?_,fun c=>?_,fun c=>?_,fun j a hj2=>?_⟩
      · have e:b.q= B.sq i:=e
        have:B.sq i<wr.heap.size:=lt _ (.inl rfl)
        omega
      · have c:(B.sT i).fp b.q:=c
        have:=lt _ (.inr (.inr c))
        omega
      · have c:b.t.fp (B.sq i):=c
        have h1:=l _ c
        have:B.sq i<wr.heap.size:=lt _ (.inl rfl)
        omega
      · have a:b.t.fp j:=a
        have h1:=l _ a
        have:=lt _ (.inr (.inr hj2))
        omega
    rw [bk i,bk j]
    by_cases e:i= k
    · rw [if_pos e,if_neg (by omega)]
      exact (fresh j (key j a (by omega)) h17 hn2).symm
    · rw [if_neg e]
      by_cases g:j= k
      · rw [if_pos g]
        exact fresh i (key i hi e) h16 hn1
      · rw [if_neg g]
        exact h.ap i j (key i hi e) (key j a g) h16 h17 hij hn1 hn2
theorem rQ (w:World) (q k:Nat) {j:Nat} (h:j<5) {v:Value}:(w.setCell ⟨q,69+k,none⟩ v).cell? (zD q j)= w.cell? (zD q j):=VM w ⟨q,69+k,none⟩ ⟨q,j,none⟩ v (λc=>by injection c with _ c2;omega)
theorem vu (w:World) {q b:Nat} (o:Nat) (h:q<b) {j:Nat} {v:Value}:(w.setCell ⟨q,o,none⟩ v).cell? (zD b j)= w.cell? (zD b j):=VM w ⟨q,o,none⟩ ⟨b,j,none⟩ v (λc=>by injection c with c1 _;omega)
theorem dY.ek (h:dY w B E st 16 wr) (f:E.S.length= 16):Ek wr B E st:=by
 have g:=h.gY;refine ⟨h.hd,f,h.aF,λi hi=>?_,λi hi h0=>h.sk i hi hi h0,λi j hi hj hij h1 h2=>h.ap i j hi hj hi hj hij h1 h2,λe=>by have:=h.oq;omega,h.qd,λi hi h0=>?_⟩;·
  rw [h.ptr i hi];by_cases c:(E.one i).t= 0;· rw [if_neg λhh=>hh.2 c,if_pos c]
  ·rw [if_pos ⟨hi,c⟩,if_neg c]
 ·obtain ⟨a,b,c,d⟩:=h.new i hi hi h0;exact ⟨by omega,λe=>by have:=b _ e;omega,c,d⟩
def Cn (q:Nat) (d0:ae.Ob) (E:En) (st:Dm.St) (w:World) (e:Ending) (w':World):Prop:=e= nf (.tuple #[])/\∃B:Eb,B.q= q/\B.d= d0/\dY w B E st 16 w'
theorem lS (h:iS w q d0 st) {E:En} (Q:jW E st) (T0:Tb.Ob): zF 45 #[zP q] w (Cn q d0 E st w):=by
 have eN:=Um.cT Q.aj;have hP:st.P.length<=1099511627776:=by have:=Q.bQ;omega
 have bb:=Cl Q.dE (k:=0) (by rw [Q.dK];omega);have hr:Dm.aY st 0 1= 0:=bb.1;have cb:Dm.aA st 0 1= Um.ah (E.a:Int) (E.n:Int) (E.g:Int):=by rw [show Dm.aA st 0 1= Dm.one st 0 from bb.2,Q.sup]
 have bl:=Um.back _ _ _ Q.aj;rw [<-cb]at bl;obtain ⟨hd,bm,dx,dT⟩:Um.av (Dm.aA st 0 1)= 0/\Um.bN (Dm.aA st 0 1)= E.a/\Um.bO (Dm.aA st 0 1)= E.n/\Um.aH (Dm.aA st 0 1)= E.g:=by obtain ⟨h1,W,h3,h4⟩:=bl;exact ⟨h1,by omega,by omega,by omega⟩
 have hl:Um.bN (Dm.aA st 0 1)<=st.S.length:=by rw [bm,Q.dK];exact nm _
 have cc:∀i:Nat,i<16->Dm.aY st ((1:Int) + (i:Int)) 1= 0:=λi hi=>(Q.sec hi).1;have cg:∀i,i<16->Tm.av (cq st i)= 0:=λi hi=>(Q.dec hi).1;have x:=hT Q;have r:Hid (E.a= Um.bN (Dm.aA st 0 1)/\E.n= Um.bO (Dm.aA st 0 1)/\E.g= Um.aH (Dm.aA st 0 1)):=hT ⟨bm.symm,dx.symm,dT.symm⟩;obtain ⟨-, -, -,c3, -, -⟩:=h.cells;have RD:=ae.kq h.dk 0 1 (by decide) hP;rw [hr]at RD;have SY:=hT (λw1=>J8 (.string (Om.B (Dm.aA st 0 1))) w1);have UD:=λw1=>QK (Dm.aA st 0 1) w1;unfold rN oW Uv at UD;rw [hd]at UD;have UD:=hT UD;have hu:=(Um.again (Dm.aA st 0 1) hd).1;have SN:=hT (λw1=>QE (Um.bN (Dm.aA st 0 1)) (Um.bO (Dm.aA st 0 1)) (Um.aH (Dm.aA st 0 1)) w1);have OF:=hT (λw1=>tp (Um.bN (Dm.aA st 0 1)) (Um.bO (Dm.aA st 0 1)) (Um.aH (Dm.aA st 0 1)) w1 hu);have MY:=hT (λw1=>QF (Um.bN (Dm.aA st 0 1)) (Um.bO (Dm.aA st 0 1)) (Um.aH (Dm.aA st 0 1)) w1);have LA:=hT (λw1 (l:zB w w1)=>h.laid l (Um.bN (Dm.aA st 0 1)) (Um.bO (Dm.aA st 0 1)) (Um.aH (Dm.aA st 0 1)));have FW:=hT (λw1 (hk:ae.Dk w1 d0 st)=>Og.QO hk hu rfl hl);have LS:=hT (λ(i:Nat) (hi:i<16) w1=>nV (Um.bN (Dm.aA st 0 1)) (Um.bO (Dm.aA st 0 1)) (Um.aH (Dm.aA st 0 1)) (i:Int) w1 hu (by omega) (by omega));have RK:Hid (∀(i:Nat),i<16->∀w1,ae.Dk w1 d0 st->zF 98 #[zP d0.p,zI ((1:Int) + (i:Int)),zI 1] w1 λe w'=>e= zV (.string (Om.B (cq st i))) (zI 0)/\zB w1 w'):=hT (λi hi w1 hk=>by have:=ae.kq hk ((1:Int) + (i:Int)) 1 (by omega) hP;rw [cc i hi]at this;exact this);generalize Um.bN (Dm.aA st 0 1)= a at UD SN OF MY LA FW LS r;generalize Um.bO (Dm.aA st 0 1)= n at UD SN OF MY LA FW LS r;generalize Um.aH (Dm.aA st 0 1)= g at UD SN OF MY LA FW LS r;have QD:=hT h.qd;have ft:=hT cg;generalize Om.B (Dm.aA st 0 1)= t at RD SY UD;have RD:=hT RD;have GN:=hT (λv w1=>J9 v w1);have gi:Hid (∀w1,zB w w1->(∀j,w1.frozen? (zD q j)= false)/\w1.cell? (zD q 0)= some (zI 0)/\w1.cell? (zD q 1)= some (zI 0)/\w1.cell? (zD q 2)= some (zI 0)):=hT λw1 l=>by obtain ⟨a0,a1,a2,_,_,af⟩:=(h.below l).cells;exact ⟨af,a0,a1,a2⟩
 unfold Cn;have bG:Hid (q<w.heap.size/\∀k,d0.fp k->k<w.heap.size):=hT ⟨h.lt,λk hk=>h.dk.lt k hk⟩;clear h hP hr hd hl hu cc cg Q eN bb cb bl bm dx dT;go_enter func45,ntmps45;go_wp2_with fail;refine zg RD.out λw1 l=>?_;have HB:=hT l;clear l;go_wp2_with fail;refine zh (SY.out _) ?_;go_wp2_with fail;refine zg (UD.out _) λw3 l=>?_;have ho:=zT HB l;clear l;go_wp2_with fail;refine zg (SN.out _) λw4 l=>?_;have ey:=zT ho l;clear l;obtain ⟨W5,bo⟩:=eX2 (w4.alloc (zK a n g 23));have Y:W5.heap[w4.heap.size]?= some (hV #[zI a,zI n,zI g] 23 (0,0)):=by rw [<-bo];exact heap_alloc_new w4 _
 have b0:W5.cell? (zz w4 0)= some (zI a):=zW Y;have b1:W5.cell? (zz w4 1)= some (zI n):=zW Y;have b2:W5.cell? (zz w4 2)= some (zI g):=zW Y;have hn:Hid (zB w W5):=hT (by rw [<-bo];exact ey.out.alloc ey.out.size _);clear Y;go_wp2_with fail;clear bo;refine zg (OF.out _) λw6 l=>?_;have hg:=zT hn l;clear l b0 b1 b2;go_wp2_with fail;refine zg (MY.out _) λw7 l=>?_;have et:=zT hg l;clear l;obtain ⟨zf,z0,z1,z2⟩:=gi.out w7 et.out;go_upto_region 2 with fail;have HL:=hT (LA.out w7 et.out);obtain ⟨a0,a1,a2,a3,a4,af⟩:=HL.out.cells;clear zf z0 z1 z2;go_region_held3 (λw'=>w'.cell? (zD q 0)= some (zI a)/\w'.cell? (zD q 1)= some (zI n)/\w'.cell? (zD q 2)= some (zI g)/\w'.cell? (zD q 3)= some (zP d0.p)) (first|(refine ⟨?_,?_,?_,?_⟩<;>with_reducible assumption)|(refine ⟨?_,?_,?_,?_⟩<;>(rw [So.cw];with_reducible assumption))|(refine ⟨?_,?_,?_,?_⟩<;>(rw [QP _ _ _ (by decide)];with_reducible assumption))) (first
  | (go_at_call 101;refine (FW.out _ (HL.out.below zR.drew).dk).mono ?_;rintro e w8 ⟨o,rfl,cm,ch,cf,l⟩;have L8:=hT (HL.out.below (Og.dL l));obtain ⟨t0,t1,t2,t3,t4,tf⟩:=L8.out.cells;have gg:=hT cm;have fz:=hT ch;have ei:=hT (A6 (HL.out.below zR.drew).fr.size cf);clear l ch cm cf)
  | (go_at_call 100;refine zh (GN.out _ _) ?_));obtain ⟨B,eb,ab,gf,ec⟩:∃B:Eb,B.q= q/\B.d= d0/\Hid (gn w B a n g st 0 (w8.setCell ⟨q,4,none⟩ (zP o.q)))/\B.ptr= (λ_=> xb none):= ⟨⟨q,d0,o.q,λ_=>0,λ_=>T0,λ_=> xb none⟩,rfl,rfl,hT ⟨⟨ae.Fr.setCell (F:=λk=>k= q) L8.out.fr ⟨q,4,none⟩ rfl _,QT (B:=⟨q,d0,o.q,λ_=>0,λ_=>T0,λ_=> xb none⟩) L8.out rfl,L8.out.dk.keep (ae.Fr.setCell (F:=λk=>k= q) (ae.Fr.refl _ _) ⟨q,4,none⟩ rfl _) λk hk e=>QD.out (by rw [<-e];exact hk)⟩,oY (B:=⟨q,d0,o.q,λ_=>0,λ_=>T0,λ_=> xb none⟩) (by have:=gg.out;have e:=fz.out;cases o;simp at e;subst e;exact this) rfl QD.out (by have:=ei.out;have:=bG.out.1;show q≠o.q;omega),ei.out,bG.out.1⟩,rfl⟩;have ha:=hT ec;have u:=hT eb;have z:=hT ab;have eo:Hid (¬B.d.fp q):=hT (by rw [ab];exact QD.out);have gp:Hid (∀k wr,gn w B a n g st k wr->ae.Dk wr d0 st):=hT λk wr h=>by rw [<-ab];exact h.at_.dk
 clear t0 t1 t2 t3 t4 tf a0 a1 a2 a3 a4 af eb ab ec;go_wp2_with fail;go_loopw [42,3] (λi s wr=>∃(k c:Nat),i= zI k/\s= zI c/\k<=16/\Hid (c= iT E k)/\Hid (c<=k)/\Hid (gn w B a n g st k wr)) (λi _ _=>16 - (wo i).toNat);case atStart=>exact ⟨0,0,rfl,rfl,yb _,hT rfl,hT (nm _),gf⟩
 case round=>
  obtain ⟨k,c,rfl,rfl,hk,bg,eS,hL⟩:=hrel;by_cases M:k<16;·
   have hc:=eS.out;have k0:(0:Int)<=(k:Int):=by omega
   have k1:(k:Int) <16:=by omega
   have eM:lg.wrap ((k:Int) +1)= ((k+1:Nat):Int):=by rw [rr _ (by omega)];rfl
   have L:lg.wrap ((c:Int) +1)= ((c+1:Nat):Int):=by rw [rr _ (by omega)];rfl
   have f:Hid (k<16):=hT (by omega);have MI:=hT (λw1=>jd ((1:Int) + (k:Int)) w1);have MU:=hT (λw1=>eL (.string (Om.B (cq st k))) w1);have X:=λw1=>Md (cq st k) w1;unfold jQ qR Sv at X;obtain ⟨a0,a1,a2,a3⟩:=hL.out.cells u.out z.out;go_wp2_with fail;rw [ft.out k M]at X;have X:=hT X;have NX:Hid (∀v,gn w B a n g st k v->_):=hT λv (h:gn w B a n g st k v)=>h.next u.out eo.out f.out;have ST:=hT (λw1=>QG (Tm.ev (cq st k)) (Tm.bN (cq st k)) (Tm.bO (cq st k)) (Tm.aH (cq st k)) w1);have en:Hid (((gm a n g st (k+1)).one k).t= Tm.ev (cq st k)):=hT (by rw [vt _ _ _ _ _ f.out,if_pos (by omega)];rfl);have ef:=hT (RK.out k f.out);have bt:=hT (x.out.dec f.out).2.1;generalize Om.B (cq st k)= tx at MU X ef;generalize Tm.ev (cq st k)= tt at X NX ST en bt;generalize ((Tm.bN (cq st k):Nat):Int)= ta at X NX ST;generalize ((Tm.bO (cq st k):Nat):Int)= tn at X NX ST;generalize ((Tm.aH (cq st k):Nat):Int)= tg at X NX ST;go_region_held3 (λw'=>w'.cell? (zD q 0)= some (zI a)/\w'.cell? (zD q 1)= some (zI n)/\w'.cell? (zD q 2)= some (zI g)/\w'.cell? (zD q 3)= some (zP d0.p)) (first|(refine ⟨?_,?_,?_,?_⟩<;>with_reducible assumption)|(refine ⟨?_,?_,?_,?_⟩<;>(rw [So.cw];with_reducible assumption))|(obtain ⟨g0,g1,g2,g3⟩:=(NX.out _ L6.out).cells u.out z.out;exact ⟨g0,g1,g2,g3⟩)) (first
    | (go_at_call 105;refine zg (LS.out k f.out _) λv1 l=>?_;have L1:=hT (hL.out.below (Og.dL l));obtain ⟨p0,p1,p2,p3⟩:=L1.out.cells u.out z.out;obtain ⟨_,_,y0,y1,y2,y3,yf⟩:=L1.out.slot u.out f.out;clear l)
    | (go_at_call 104;refine zh (MI.out _) ?_)
    | (go_at_call 98;refine zg (ef.out _ (gp.out _ _ L1.out)) λv3 l=>?_;have L3:=hT (L1.out.below l);obtain ⟨r0,r1,r2,r3⟩:=L3.out.cells u.out z.out;obtain ⟨_,_,z0,z1,z2,z3,zf⟩:=L3.out.slot u.out f.out;clear l)
    | (go_at_call 93;refine zh (MU.out _) ?_)
    | (go_at_call 103;refine zg (X.out _) λv5 l=>?_;have L5:=hT (L3.out.below l);obtain ⟨s0,s1,s2,s3⟩:=L5.out.cells u.out z.out;obtain ⟨_,_,x0,U,T,R,xf⟩:=L5.out.slot u.out f.out;clear l)
    | (go_at_call 102;refine zg (ST.out _) λv6 l=>?_;have L6:=hT (L5.out.below l);obtain ⟨t0,t1,t2,t3⟩:=L6.out.cells u.out z.out;obtain ⟨_,_,eG,eF,eE,eD,eC⟩:=L6.out.slot u.out f.out;clear l));have L7:=hT (NX.out _ L6.out);obtain ⟨xx,bS,e0,_⟩:=L7.out.slot u.out f.out;rw [bS,en.out]at e0;clear eG eF eE eD eC x0 U T R xf y0 y1 y2 y3 yf z0 z1 z2 z3 zf bS;by_cases W:tt= 2;·
    have d2:((tt:Int) == 2):=by simp;omega
    have O:Hid (c+1<=k+1):=hT (by omega);have N:Hid (c+1= iT E (k+1)):=hT (by show c+1= iT E k+if (E.one k).t= 2 then 1 else 0;rw [<-bg.out,<-bt.out,if_pos W]);have bf:Hid (k+1<=16):=hT (by omega);clear W;go_wp2_with fail;go_roundw;case rel=>exact ⟨k+1,c+1,by go_num,by go_num,bf.out,N,O,L7⟩
    case measure=>have:=f.out;simp [wo];omega
   ·have d2:((tt:Int) == 2)= false:=by simp;omega
    have O:Hid (c<=k+1):=hT (by omega);have N:Hid (c= iT E (k+1)):=hT (by show c= iT E k+if (E.one k).t= 2 then 1 else 0;rw [<-bg.out,<-bt.out,if_neg W,Nat.add_zero]);have bf:Hid (k+1<=16):=hT (by omega);clear W;go_wp2_with fail;go_roundw;case rel=>exact ⟨k+1,c,by go_num,rfl,bf.out,N,O,L7⟩
    case measure=>have:=f.out;simp [wo];omega
  ·have e:k= 16:=by omega
   subst e;have O:c<=1:=by have:=x.out.two;have:=bg.out;omega
   have d3:decide ((c:Int)<=1):=by simp;omega
   have bP:Hid (∀w1,zB wr w1->Hd w1 B E):=hT λw1 l=>x.out.hd r.out (hL.out.below l).at_.hd;obtain ⟨J,A,I⟩:=r.out;have eW:=hT (λw1=>lr (a:Int) (n:Int) (g:Int) w1 (by rw [<-J,<-A,<-I];exact x.out.aj));have ht:=hT λw1 l=>by have:=uY (bP.out w1 l);rw [u.out]at this;exact this
   have eT:=hT λp c' w1 hu=>by have:=Xm.Ot (17+ (n:Int)) ((a:Int) - (17+ (n:Int))) x.out.small p c' w1 hu;have bX:=x.out.used;rw [J,A]at bX;rw [bX]at this;exact this
   have bq:=hT (λw1=>iI w1);obtain ⟨a0,a1,a2,a3⟩:=hL.out.cells u.out z.out;clear J A I O;go_wp2_with fail;refine zg (eW.out _) λv1 l=>?_;have V1:=hT l;have hx:=hT (ht.out v1 l);clear l;go_wp2_with fail;refine hx.out.mono ?_;rintro e v2 ⟨pu,cu,rfl,hex,l⟩;have V2:=zT V1 l;have eU:=hT (eT.out pu cu v2 hex);clear l hex;go_wp2_with fail;refine zg eU.out λv3 l=>?_;have V3:=zT V2 l;clear l;go_wp2_with fail;refine zh (bq.out _) ?_;have gb:Hid (dY w B E st 0 v3):=hT (by
    have Z:=hL.out.below V3.out;obtain ⟨J,A,I⟩:=r.out;refine ⟨Z.at_.fr,Z.gY,bP.out v3 V3.out,?_,Z.oq,λk hk=>?_,?_,λi hi=>?_,λi hi=>(by omega),λi hi=>(by omega),λi j hi=>(by omega)⟩;· rw [A,I];exact Z.aF
    ·rw [z.out]at hk;exact bG.out.2 k hk
    ·rw [u.out];exact eo.out
    ·rw [ha.out,if_neg (by omega)]);have HX:=hT (λk (hk:k<16)=>mx E k hk);have fs:=hT (by have:=(bP.out v3 V3.out).lj;rw [u.out]at this;exact this);clear a0 a1 a2 a3;go_wp2_with (refine wpList_load_mid rfl 89 _ rfl q 5 rfl (bh 64 (cG E)) _ fs.out underlying89 rfl (my E) ?_);generalize hAV:Value.agg (bh 64 (cG E)).toArray= AV;rw [hAV]at HX;clear hAV;have hf:Hid (B.q= q/\B.d= d0):=hT ⟨u.out,z.out⟩;go_loopw [99] (λi wr2=>∃(k:Nat) (G:Eb),i= zI k/\k<=16/\Hid (G.q= q/\G.d= d0)/\Hid (dY w G E st k wr2)) (λi _=>16 - (wo i).toNat);case atStart=>exact ⟨0,B,rfl,yb _,hf,gb⟩
   case round=>
    obtain ⟨k,G,rfl,hk,K,hS⟩:=hrel;have y:=hT K.out.1;have H:=hT K.out.2;by_cases M:k<16;·
     have k0:(0:Int)<=(k:Int):=by omega
     have k1:(k:Int) <16:=by omega
     have eM:lg.wrap ((k:Int) +1)= ((k+1:Nat):Int):=by rw [rr _ (by omega)];rfl
     have f:=hT M;have eP:=HX.out k M;obtain ⟨U,ba⟩:∃U:Int,U= ((E.one k).st:Int):=⟨_,rfl⟩;obtain ⟨T,aw⟩:∃T:Int,T= ((E.one k).ln:Int):=⟨_,rfl⟩;obtain ⟨R,ao⟩:∃R:Int,R= ((E.one k).gen:Int):=⟨_,rfl⟩;obtain ⟨s,hs⟩:∃s:Nat,s= (E.one k).t:=⟨_,rfl⟩;have bs:Hid (U= ((E.one k).st:Int)/\T= ((E.one k).ln:Int)/\R= ((E.one k).gen:Int)/\s= (E.one k).t):=hT ⟨ba,aw,ao,hs⟩;rw [<-ba,<-aw,<-ao,<-hs]at eP;clear ba aw ao hs M;obtain ⟨w2,L⟩:=eX2 (wr.alloc (hV #[zI s,zI U,zI T,zU R] 68));have hq:Hid (zB wr w2):=hT (by rw [<-L];exact (Below.refl _ wr).alloc (nm _) _);have D:Hid (w2.heap[wr.heap.size]?= some (hV #[zI s,zI U,zI T,zU R] 68 (0,0))):=hT (by rw [<-L];exact heap_alloc_new wr _);have C:=hT (hS.out.below hq.out);have bx:Hid (q<wr.heap.size):=hT (by rw [<-y.out];exact ti hS.out.gY hS.out.fr.size);have c0:w2.cell? (zz wr 0)= some (zI s):=zW D.out;by_cases W:s= 0;·
      have d2:((s:Int) != 0)= false:=by simp;omega
      have HN:=hT (C.out.skip (by rw [<-bs.out.2.2.2];exact W));clear W;go_wp2_with fail;clear L;go_roundw;case rel=>exact ⟨k+1,G,by go_num,by have:=f.out;omega,K,HN⟩
      case measure=>have:=f.out;simp [wo];omega
     ·have d2:((s:Int) != 0):=by simp;omega
      have c1:w2.cell? (zz wr 1)= some (zI U):=zW D.out;have c2:w2.cell? (zz wr 2)= some (zI T):=zW D.out;have c3:w2.cell? (zz wr 3)= some (zU R):=zW D.out;have ad:Hid ((E.one k).t≠0):=hT (by rw [<-bs.out.2.2.2];exact W);have eg:Hid (∀w1,dY w G E st k w1->zF 109 #[zP d0.p, zO a n g, zM U T,zU R] w1 (So.rO (E.pa k) d0 st w1)):=hT λw1 h1=>by
       obtain ⟨e1,e2,e3,e4⟩:=bs.out;obtain ⟨J,A,I⟩:=r.out;have eR:ae.Dk w1 d0 st:=by rw [<-H.out];exact h1.aF.dk
       have:=So.QU (x.out.pa k f.out ad.out) eR x.out.dE x.out.dK (by have:=x.out.bQ;omega) (x.out.opened k f.out ad.out).1;rw [e1,e2,e3,<-J,<-A,<-I];exact this
      have GO:=hT (λv w1=>J_ v w1);clear W;go_upto_region 16 with fail;clear L;obtain ⟨a0,a1,a2,a3⟩:=C.out.low y.out H.out;rw [r.out.1]at a0;rw [r.out.2.1]at a1;rw [r.out.2.2]at a2;obtain ⟨pv,p0,pf⟩:=C.out.at y.out f.out;unfold So.rO at eg;go_region_held3 (λw'=>w'.cell? (zD q 0)= some (zI a)/\w'.cell? (zD q 1)= some (zI n)/\w'.cell? (zD q 2)= some (zI g)/\w'.cell? (zD q 3)= some (zP d0.p)/\w'.cell? (zz wr 1)= some (zI U)/\w'.cell? (zz wr 2)= some (zI T)/\w'.cell? (zz wr 3)= some (zU R)) (first|(refine ⟨?_,?_,?_,?_,?_,?_,?_⟩<;>with_reducible assumption)|(refine ⟨?_,?_,?_,?_,?_,?_,?_⟩<;>(rw [So.cw];with_reducible assumption))|(exact ⟨(rQ _ q k (by decide)).trans t0,(rQ _ q k (by decide)).trans t1,(rQ _ q k (by decide)).trans t2,(rQ _ q k (by decide)).trans t3,(vu _ _ bx.out).trans u1,(vu _ _ bx.out).trans u2,(vu _ _ bx.out).trans u3⟩)) (first
       | (go_at_call 109;refine (eg.out _ (C.out.below zR.drew)).mono ?_;rintro e w8 ⟨b,rfl,ca,ea,dm,dw,l⟩;have l:=Og.dL l;have eZ:=hT l;have fe:Hid (So.Sk w8 b (E.pa k) (So.gz (Dm.one st) (E.pa k)) st (So.fG (E.pa k) (Dm.one st))/\b.d= d0/\(∀j,b.t.fp j->w2.heap.size<=j)/\w2.heap.size<=b.q):=hT ⟨ca,ea,dm,dw⟩;obtain ⟨t0,t1,t2,t3⟩:=(C.out.below l).low y.out H.out;rw [r.out.1]at t0;rw [r.out.2.1]at t1;rw [r.out.2.2]at t2;obtain ⟨qv,q0,qf⟩:=(C.out.below l).at y.out f.out;have u1:=(l.cell (p:=(zz wr 1)) (by have:=(DN.1 D.out).1;exact this)).trans c1;have u2:=(l.cell (p:=(zz wr 2)) (by have:=(DN.1 D.out).1;exact this)).trans c2;have u3:=(l.cell (p:=(zz wr 3)) (by have:=(DN.1 D.out).1;exact this)).trans c3;clear l ca ea dm dw)
       | (go_at_call 108;refine zh (GO.out _ _) ?_));have ga:=hT (by obtain ⟨s1,s2,s3,s4⟩:=fe.out;obtain ⟨o1,o2,o3⟩:=x.out.opened k f.out ad.out;rw [o2,o3]at s1;have:=C.out.next f.out ad.out eZ.out s1 (by rw [s2];exact H.out.symm) s3 s4;rw [y.out]at this;exact this);have er:Hid ((G.put k b.q b.t).q= q/\(G.put k b.q b.t).d= d0):=hT K.out;clear a0 a1 a2 a3 p0 pf t0 t1 t2 t3 q0 qf u1 u2 u3 c0 c1 c2 c3;go_wp2_with fail;go_roundw;case rel=>exact ⟨k+1,_,by go_num,by have:=f.out;omega,er,ga⟩
      case measure=>have:=f.out;simp [wo];omega
    ·have e:k= 16:=by omega
     subst e;have EM:=hT (by have:=jB hS.out.hd;rw [y.out]at this;exact this);have ES:Hid (∀w1,zB wr w1->zF 81 #[zP q,zI E.al] w1 λe w'=>e= nf (G.de E (E.al:Int))/\w1= w'):=hT λw1 l=>by have:=ox (hS.out.hd.below l) (E.al:Int);rw [y.out]at this;exact this
     have EI:Hid (∀w1,zB wr w1->zF 83 #[G.de E (E.al:Int)] w1 λe w'=>e= nf (.bool false)/\w1= w'):=hT λw1 l=>by
      have cp:=((hS.out.below l).ek x.out.len);by_cases hm:E.al= 0;· have:G.de E (E.al:Int)= xb none:=qC (by rw [hm];cases hh:E.has (((0:Nat):Int)) with|false=>rfl|true=>obtain ⟨j,_,hj,_⟩:=cO.1 hh;omega);rw [this];exact So.LC w1
      ·obtain ⟨j,hj,ej,tj,_⟩:=lp hm;have ej:E.al= j+1:=ej;have:G.de E (E.al:Int)= xb (some ⟨G.sq j,0,none⟩):=cp.de hj (by rw [ej];rfl) (by omega);rw [this];have hv:=x.out.val hm;rw [ej,show j+1 - 1= j by omega]at hv;have:=So.mN (cp.sk j hj (by omega));rw [hv]at this;exact this
     have bq:=hT (λw1=>iI w1);generalize G.de E (E.al:Int)= V at ES EI;generalize (E.al:Int)= m at EM ES;go_wp2_with fail;refine zg EM.out λv1 l=>?_;have V1:=hT l;have hy:=hT (ES.out v1 l);have hz:=hT (EI.out v1 l);clear l;go_wp2_with fail;refine zh hy.out ?_;go_wp2_with fail;refine zh hz.out ?_;go_wp2_with fail;refine zh (bq.out _) ?_;go_wp2_with fail;go_end0;exact ⟨rfl,G,K.out.1,K.out.2,hS.out.below V1.out⟩
def vv (o:ae.Ob) (E:En) (st:Dm.St) (w:World) (e:Ending) (w':World):Prop:=∃B:Eb,e= zV (zP B.q) (zI 0)/\Ek w' B E st/\B.d= o/\(∀k,B.fp E k->o.fp k\/w.heap.size<=k)/\w.heap.size<=B.q/\zB w w'
variable{o:ae.Ob}
theorem vx (hk:ae.Dk w o st) {E:En} (v:jW E st) (T0:Tb.Ob):
    zF 13 #[zP o.p] w (vv o E st w):=by
  have m:=hk
  have y:=ae.Hb hk
  rw [v.dE]at y
  have y:=hT y
  obtain ⟨I,r⟩:=eX1 (zeroCells93.setIfInBounds 3 (xb (some ⟨o.p,0,none⟩)))
  obtain ⟨g,c⟩:=eX2 (w.alloc (hV I 93))
  have AT:Hid (zF 42 #[.func (.func 45) #[zP w.heap.size] #[]] g fun e w'=>e= nf (zI 0)∧zB w w'∧∃B:Eb,B.q= w.heap.size∧B.d= o∧Ek w' B E st∧∀k,B.fp E k→o.fp k∨w.heap.size≤k):=hT (by
    have A:g.heap[w.heap.size]?= some (hV I 93 (0,0)):=by rw [←c];exact heap_alloc_new w _
    have t:zB w g:=by rw [←c];exact zA
    have K:g.heap.size= w.heap.size+1:=by rw [←c];simp
    obtain ⟨W,u⟩:=eX2 (g.alloc (hV #[zI 0] 38))
    have n:zB g W:=by rw [←u];exact zA
    have L:W.heap[g.heap.size]?= some (hV #[zI 0] 38 (0,0)):=by rw [←u];exact heap_alloc_new g _
    have J:W.heap.size= g.heap.size+1:=by rw [←u];simp
    have s:=t.trans (n.mono t.size)
    have D:iS W w.heap.size o st:=⟨(n.block _ (by omega)).trans (by rw [A,r]),hk.same fun k h=>s.block k (hk.lt k h),fun h=>by have:=hk.lt _ h;omega⟩
    refine (ky (Z:=fun x w2=>x= 0∧∃B:Eb,B.q= w.heap.size∧B.d= o∧dY W B E st 16 w2) (enters_of func45 (by kernel_rfl) rfl) ?_ ?_).mono ?_
    · rintro x w2 ⟨_,B,f,hd,a⟩
      rw [a.fr.block _ (by omega) (by rw [f];omega),L]
    · rw [u]
      refine (lS D v T0).mono ?_
      rintro e w2 ⟨rfl,B,h1,l,M⟩
      exact ⟨0,rfl,rfl,B,h1,l,M⟩
    · rintro e w' ⟨x,w2,rfl,⟨rfl,B,f,hd,a⟩,l⟩
      have b:=a.ek v.len
      have C:∀k,B.fp E k→k≠g.heap.size:=fun k hk e=>by
        rcases hk with hk|hk|hk|⟨i,hi,F,hk⟩
        · omega
        · have:=a.oq;omega
        · have:=a.rP k hk
          rw [hd]at hk
          have:=m.lt k hk
          omega
        · obtain ⟨n1,z,_,_⟩:=a.new i hi hi F
          rcases hk with hk|hk|hk
          · have hk:k= B.sq i:=hk
            omega
          · have hk:B.d.fp k:=hk
            rw [hd]at hk
            have:=m.lt k hk
            omega
          · have:=z k hk;omega
      refine ⟨rfl,s.trans ⟨by rw [l.os,a.fr.os],by rw [l.tape,a.fr.tape],by rw [l.output,a.fr.output],A6 a.fr.size l.size,fun k hk1=>?_⟩,B,f,hd,b.keep l C,fun k hk=>?_⟩
      · rw [l.block k (by have:=a.fr.size;omega) (by omega),a.fr.block k (by omega) (by rw [f];omega)]
      · rcases hk with hk|hk|hk|⟨i,hi,F,hk⟩
        · exact .inr (by omega)
        · exact .inr (by have:=a.oq;omega)
        · rw [hd]at hk;exact .inl hk
        · obtain ⟨n1,z,_,_⟩:=a.new i hi hi F
          rcases hk with hk|hk|hk
          · have hk:k= B.sq i:=hk
            exact .inr (by omega)
          · have hk:B.d.fp k:=hk
            rw [hd]at hk;exact .inl hk
          · exact .inr (by have:=z k hk;omega))
  rw [←c,r]at AT
  unfold vv
  clear hk m v c r
  go_enter func13,ntmps13
  go_wp2_with fail
  refine zh y.out ?_
  go_wp2_with fail
  refine AT.out.mono ?_
  rintro e H ⟨rfl,n,B,f,hd,b,j⟩
  have G:Hid (zB w H∧B.q= w.heap.size∧B.d= o∧Ek H B E st∧∀k,B.fp E k→o.fp k∨w.heap.size≤k):=hT ⟨n,f,hd,b,j⟩
  clear n f hd b j
  go_wp2_with fail
  go_ret2
  obtain ⟨n,f,hd,b,j⟩:=G.out
  exact ⟨B,by rw [f];rfl,b,hd,j,by rw [f];exact nm _,n⟩
theorem aD.vy (h:aD E st) (a:st.P.length<=68719476736):jW E st:=by
 refine ⟨h.form.len,h.form.aj,h.dE.dead,h.dK,a,h.gW.sup,h.gW.slot,λi hi=>⟨h.form.slot i hi,h.form.gen i hi⟩,h.form.pa,rB (h.aN a),rD h.form,(Ck h.form.two 16 (nm _)).1,λi hi h0=>?_,λhm=>?_⟩;· exact So.F8 (h.form.pa i hi h0) (h.gW.ed i hi h0) (h.form.fit i hi h0)
 ·obtain ⟨k,hk,ek,tk,_⟩:=lp hm;have ek:E.al= k+1:=ek;rw [ek,show k+1 - 1= k by omega];exact h.form.val k hk tk
theorem Co (a:Form E):E.dG<4294967296:=by
 have key:∀k,k<=16->iq E k<4294967296:=by intro k;induction k with
  | zero=>intro _;show (0:Nat) <_;decide
  | succ k ih => intro hk;have h1:=ih (by omega);have b:=a.gen k (by omega);show max (iq E k) (E.one k).gen<_;omega
 exact key 16 (nm _)
theorem Form.right (h:Form E):Em.aM (E.n:Int) (E.g:Int)= true:=by have:=h.small;exact (Em.cM _ _).2 ⟨by omega,by omega,by omega,by omega⟩
theorem QW (b:Form E) {c:Int} (d:dH E c= 0):Xm.dA (17+ (E.n:Int)) ((E.a:Int) - (17+ (E.n:Int))) (bC E c) E.bB= 0\/Xm.dA (17+ (E.n:Int)) ((E.a:Int) - (17+ (E.n:Int))) (bC E c) E.bB= 111:=by
 have hm:1<=bC E c:=by unfold bC;rw [if_pos d];unfold Em.size;omega
 cases hro:Xm.room (bC E c) (Xm.bF (17+ (E.n:Int)) ((E.a:Int) - (17+ (E.n:Int))) E.bB) with
  | none=>exact .inr (Xm.oS ⟨rD b,hm⟩ hro).2.2
  | some x=>exact .inl (Xm.oT ⟨rD b,hm⟩ hro).2.2
variable{D:Sn.En}
theorem Cp (h:Ek w B E st) (p:eY E st D) (c:Int): zF 16 #[zP B.q,zI c] w λr w'=>r= zV (zI (D.gJ c)) (zI (D.fw c))/\fL B E (D.cr c) w w':=by
 have s:=p.bE.form;have e:=p.rel;have eM:=e.al;have I:=Qo e;have U:=e.rM;have S:D.dH c= dH E c:=by unfold Sn.En.dH dH;rw [e.n,e.g]
 have J:D.bC c= bC E c:=by unfold Sn.En.bC bC;rw [S,e.g]
 have eF:D.dA c= Xm.dA (17+ (E.n:Int)) ((E.a:Int) - (17+ (E.n:Int))) (bC E c) E.bB:=by unfold Sn.En.dA;rw [e.n,e.a,J,e.used]
 have K:D.cJ c= Xm.cJ (17+ (E.n:Int)) ((E.a:Int) - (17+ (E.n:Int))) (bC E c) E.bB:=by unfold Sn.En.cJ;rw [e.n,e.a,J,e.used]
 have L:D.cK c= Xm.cK (17+ (E.n:Int)) ((E.a:Int) - (17+ (E.n:Int))) (bC E c) E.bB:=by unfold Sn.En.cK;rw [e.n,e.a,J,e.used]
 have d:D.fw c= if E.al≠0 then 163 else if (E.firstFree:Int) - 1<0 then 112 else if dH E c≠0 then dH E c else if Xm.dA (17+ (E.n:Int)) ((E.a:Int) - (17+ (E.n:Int))) (bC E c) E.bB≠0 then 111 else if E.dG= 4294967295 then 2 else 0:=by unfold Sn.En.fw;rw [eM,I,S,eF,U]
 have no:∀x:Int,D.fw c= x->x≠0->∀w',zB w w'->D.gJ c= 0/\fL B E (D.cr c) w w':=λx o hx0 w' hw=>by unfold Sn.En.gJ Sn.En.cr;rw [if_neg (by rw [o];exact hx0),if_neg (by rw [o];exact hx0)];exact ⟨rfl,fL.ax h p hw⟩
 by_cases hm:E.al= 0;·
  rw [if_neg (by omega)]at d;by_cases z:E.firstFree= 0;· rw [if_pos (by omega)]at d;refine zg (OU h c hm z) λw' hw=>?_;obtain ⟨a,b⟩:=no 112 d (by decide) w' hw;exact ⟨by rw [a,d],b⟩
  ·rw [if_neg (by omega)]at d;have A:=λw1 (hw:zB w w1)=>Oy (h.head.below hw) p.aN s.right c;by_cases m:dH E c= 0;·
    rw [if_neg (by omega)]at d;rcases QW s m with l|l;·
     rw [if_neg (by omega)]at d;by_cases F:E.dG= 4294967295;· rw [if_pos F]at d;refine zg ((vh h c hm z (λw1 hw=>Ow (h.head.below hw) (A w1 hw) m l F) (by decide))) λw' hw=>?_;obtain ⟨a,b⟩:=no 2 d (by decide) w' hw;exact ⟨by rw [a,d],b⟩
     ·rw [if_neg F]at d;have y:E.dG<4294967295:=by have:=Co s;omega
      obtain ⟨i,hi,H,Q,_⟩:=lp (E:=E) (x:=0) (k:=16) z;have H:E.firstFree= i+1:=H;have P:=Qq s hi Q m l y;obtain ⟨x,o⟩:=eX1 (E.fM c);have u:x.t= 1:=by rw [o];rfl
      have f:x.M= So.Ms.new (E.bu x):=by rw [o];rfl
      have v:x.gen= E.dG+1:=by rw [o];rfl
      obtain ⟨C,O,N,V⟩:=P;rw [<-o]at C O N V;obtain ⟨e1,e2,e3,e4,e5⟩:=p.bE.create hi Q C (by omega) f;refine (OV h c hm hi H (x:=x) (by omega) s.aj C.ok (C.pa (by omega)) f p.bE.dK (by rw [p.none];exact yb _) (λ_=>by rw [e5];exact yb _) (λw1 hw=>?_)).mono ?_;· have:=Ox (h.head.below hw) (A w1 hw) m l y;rw [<-O,<-N]at this;rw [u,v];exact this
      ·rintro r w' (⟨_,rfl,hw⟩|⟨W,_⟩);·
        have Y:D.gJ c= (i:Int) +1:=by unfold Sn.En.gJ;rw [if_pos d,I];omega
        refine ⟨by rw [Y,d],E.set i x,_,hw,⟨e2,e3,?_⟩⟩;have Z:D.cr c= D.set i (D.vo c):=by unfold Sn.En.cr;rw [if_pos d,I,show ((E.firstFree:Int) - 1).toNat= i by omega]
        rw [Z];have G:D.b= So.bI E.n (raw st):=by rw [e.aF];refine So.eu λj _=>?_;unfold En.aF;rw [if_pos hm]
        have X:x.M.T= vw c.toNat (-1):=by rw [f];show vw (Em.room E.g x.ln) (-1)= _;rw [V]
        have R:x.M.inv= false:=by rw [f];rfl
        refine e.set s hi (by omega) (by omega) e4 ⟨?_,?_,?_,?_⟩ (λc0=>by omega) (λ_=>⟨?_,?_⟩) (λ_=>?_);· show (1:Int)= (x.t:Int);rw [u];rfl
        ·show D.cJ c= (x.st:Int);rw [K,O]
        ·show D.cK c= (x.ln:Int);rw [L,N]
        ·show Sn.gl D 16+1= x.gen;rw [U,v]
        ·show vw c.toNat (-1)= x.M.T;rw [X]
        ·show false= x.M.inv;rw [R]
        ·show D.b= _;rw [R,if_neg (by decide),G];refine So.eu λj _=>?_;rw [f];exact (So.Jr (E.bu x) E.g (raw st) j).symm
       ·exact absurd e1 W
    ·rw [if_pos (by omega)]at d;refine zg ((vh h c hm z (λw1 hw=>Ov (h.head.below hw) (A w1 hw) m (by omega)) (by omega))) λw' hw=>?_;obtain ⟨a,b⟩:=no 111 d (by decide) w' hw;exact ⟨by rw [a,d,l],b⟩
   ·rw [if_pos m]at d;refine zg ((vh h c hm z (λw1 hw=>Ou (h.head.below hw) (A w1 hw) m) m)) λw' hw=>?_;obtain ⟨a,b⟩:=no _ d m w' hw;exact ⟨by rw [a,d],b⟩
 ·rw [if_pos hm]at d;refine zg (OT h c hm) λw' hw=>?_;obtain ⟨a,b⟩:=no 163 d (by decide) w' hw;exact ⟨by rw [a,d],b⟩
theorem QX (h:Ek w B E st) (d:eY E st D) (id:Int): zF 22 #[zP B.q,zI id] w λr w'=>r= nf (zI (D.fv id))/\fL B E (D.del id) w w':=by
 have f:=d.bE.form;have b:=d.rel;refine (Mn h f.aj id f.gen (by rw [d.none];exact yb _)).mono ?_;rintro r w' (⟨e,rfl,hw⟩|⟨e,hm,rfl,hw⟩|⟨e,hm,i,hi,hid,rfl,E',hw,m⟩);·
  have a:D.fv id= 161:=by unfold Sn.En.fv;rw [b.there,e];rfl
  have h1:D.del id= D:=by unfold Sn.En.del;rw [a];rfl
  rw [a,h1];exact ⟨rfl,fL.ax h d hw⟩
 ·have a:D.fv id= 163:=by unfold Sn.En.fv;rw [b.there,e,if_pos rfl,b.al,if_pos hm]
  have h1:D.del id= D:=by unfold Sn.En.del;rw [a];rfl
  rw [a,h1];exact ⟨rfl,fL.ax h d hw⟩
 ·have a:D.fv id= 0:=by unfold Sn.En.fv;rw [b.there,e,if_pos rfl,b.al,if_neg hm]
  have ek:(id - 1).toNat= i:=by omega
  have h1:D.del id= D.set i (D.one i).gone:=by unfold Sn.En.del;rw [a,if_pos rfl,ek]
  obtain ⟨g,p,o,n⟩:=d.bE.gone hi;rw [a,h1];refine ⟨by rw [g],E.set i (E.one i).gone,_,by rw [<-m g];exact hw,⟨p,o,?_⟩⟩;have k:(E.one i).t≠2:=λc=>hm (by rw [uW f hi c,hid];rfl);have l:=(b.one i hi).2.2.2;refine b.set f hi k (by show (0:Nat)≠2;decide) (λj hj=>n _ (by omega)) ⟨rfl,rfl,rfl,l⟩ (λ_=>⟨rfl,rfl,rfl⟩) (λc=>absurd rfl c) (λc=>(by cases c))
def _root_.Go.Proofs.YtchihokmgmchcaaGreat.Sn.En.iu (D:Sn.En) (c:Int):Int:=if 0<=c/\c< (Em.parts D.n D.g:Int) then 0 else 2
def _root_.Go.Proofs.YtchihokmgmchcaaGreat.Sn.En.fN (D:Sn.En) (c:Int):Sn.En:=if D.iu c= 0 then D.save c.toNat else D
theorem QY (h:Ek w B E st) (a:eY E st D) (c:Int): zF 26 #[zP B.q,zI c] w λr w'=>r= nf (zI (D.iu c))/\fL B E (D.fN c) w w':=by
 have i:=a.bE.form;have b:=a.rel;have l:=i.small;by_cases j:0<=c/\c< (Em.parts E.n E.g:Int);·
  have d:D.iu c= 0:=by unfold Sn.En.iu;rw [b.n,b.g,if_pos j]
  obtain ⟨k,rfl⟩:∃k:Nat,c= (k:Int):=⟨c.toNat,by omega⟩;have h1:D.fN (k:Int)= D.save k:=by unfold Sn.En.fN;rw [if_pos d,GH]
  rw [d,h1];have hk:k<Em.parts E.n E.g:=by omega
  have f:k<=1048576:=by have:=Em.iw E.n E.g;omega
  have hd:=(a.bE.chunk hk).2.1;have S:=a.bE.aJ f hd 16 (nm _);refine (MC h i.aj (a.bE.AX a.aS hk)).mono ?_;rintro r w' ⟨rfl,E',hw,m⟩;refine ⟨by rw [S.done],_,_,by rw [<-m S.done];exact hw,⟨S.bE,?_,a.bE.uU b hk 16 (nm _)⟩⟩;rcases S.aS with e|e;· exact e
  ·rw [e];exact a.none
 ·have d:D.iu c= 2:=by unfold Sn.En.iu;rw [b.n,b.g,if_neg j]
  have h1:D.fN c= D:=by unfold Sn.En.fN;rw [d];rfl
  rw [d,h1];refine zg (MB h i.aj c (by omega)) λw' hw=>?_;exact ⟨rfl,fL.ax h a hw⟩
theorem Cq (h:Ek w B E st) (i:eY E st D) (id a m:Int) (hm: -9223372036854775808<=m): zF 18 #[zP B.q,zI id,zI a,zI m] w λr w'=>r= zV (.string (Om.B (D.aA id a m))) (zI (D.aY id a m))/\zB w w':=by
 have s:=i.bE.form;have o:=i.rel;have p:=s.small;have t:=o.usable id;by_cases d:E.refuse id= 0;·
  by_cases u:0<=a/\0<=m/\a+m<=(E.n:Int);·
   have c:D.aY id a m= 0:=by unfold Sn.En.aY;rw [t,if_neg (by rw [d];decide),o.n,if_pos u]
   obtain ⟨x,rfl⟩:∃x:Nat,a= (x:Int):=⟨a.toNat,by omega⟩;obtain ⟨y,rfl⟩:∃y:Nat,m= (y:Int):=⟨m.toNat,by omega⟩;have l:D.aA id (x:Int) (y:Int)= ((D.whole id).drop (64*x)).take (64*y):=by unfold Sn.En.aA;rw [if_pos c,GH,GH]
   have f:=vq s d;rw [c,l];have hp:=rq (E:=E) p.2.2.1 (a:=x) (m:=y) (by omega);have b:∀k,k<=(Em.split E.g x y).length->bW (Em.split E.g x y) k<=y:=λk hk=>by
    by_cases e:k= (Em.split E.g x y).length;· rw [e,hp.all];exact nm _
    ·have:=(hp.pc k (by omega)).2.2.2;omega
   have key:=i.bE.read o f (a:=x) (m:=y) (by omega);refine (MQ h i.aN id x y d (by omega) (λk hk=>?_)).mono ?_;· rw [i.bE.eQ f hp k hk,So.mK (λj hj=>i.bE.ru f (by have:=b k hk;omega))];have:=b k hk;omega
   ·rintro r w' ⟨rfl,hw⟩;exact ⟨by rw [key],hw⟩
  ·have c:D.aY id a m= 2:=by unfold Sn.En.aY;rw [t,if_neg (by rw [d];decide),o.n,if_neg u]
   have l:D.aA id a m= []:=by unfold Sn.En.aA;rw [c,if_neg (by decide)]
   rw [c,l];exact MP h s.aj id a m d hm (by omega)
 ·have c:D.aY id a m= E.refuse id:=by unfold Sn.En.aY;rw [t,if_pos d]
  have l:D.aA id a m= []:=by unfold Sn.En.aA;rw [c,if_neg d]
  rw [c,l];exact MO h id a m d
theorem Cr (h:Ek w B E st) (o:eY E st D) (id a:Int) (d:zL) (H:d.length<=1073741824): zF 17 #[zP B.q,zI id,zI a, .string (Om.B d)] w λr w'=>r= nf (zI (D.cD id a d))/\fL B E (D.wr id a d) w w':=by
 have v:=o.bE.form;have p:=o.rel;have F:=v.small;have s:=p.usable id;have stay:∀x:Int,D.cD id a d= x->x≠0->(D.usable id= 0->x≠162)->D.wr id a d= D:=λx hx b h1=>by unfold Sn.En.wr;rw [if_neg (by rw [hx];exact b),if_neg λc=>h1 c.1 (by rw [<-hx];exact c.2)]
 by_cases b:E.refuse id= 0;·
  by_cases G:d.length % 64= 0;·
   by_cases t:0<=a/\a+ ((d.length / 64:Nat):Int)<=(E.n:Int);·
    have J:D.jV a d:=by unfold Sn.En.jV;rw [p.n];simp;omega
    obtain ⟨k,rfl⟩:∃k:Nat,a= (k:Int):=⟨a.toNat,by omega⟩;have l:=vq v b;have hid:id= 0\/∃k:Nat,k<16/\id= (k:Int) +1:=l.imp (λh=>h) λ⟨k,hk,e,_⟩=>⟨k,hk,e⟩;obtain ⟨m,hm⟩:=eX1 (d.length / 64);have hd:d.length= 64*m:=by omega
    have C:D.iR id (k:Int) d= Sn.au D id (Em.split E.g k m) (Em.split E.g k m).length:=by unfold Sn.En.iR;rw [p.g,<-hm];rfl
    have i:D.cD id (k:Int) d= if (D.iR id (k:Int) d).2= true then 0 else 162:=by unfold Sn.En.cD;rw [s,if_neg (by rw [b];decide),if_neg (by omega),J,if_neg (by decide)]
    have A:(D.whole id).length= 64*E.n:=by rw [p.whole l,So.mK (λj hj=>o.bE.ru l hj)]
    have hp:=rq (E:=E) F.2.2.1 (a:=k) (m:=m) (by omega);have M:=Cb p.g p.len hid hp hd A (by omega) (Em.split E.g k m).length (nm _);have W:=o.bE.write o.none p l (a:=k) (m:=m) (by omega) hd;obtain ⟨s1,s2,L⟩:=M;rw [hp.all,OP (by omega)]at s2;rw [<-C]at s1 s2 L;refine (NF h v.aj id k m d b hd H (by omega) rfl W.can W.aS).mono ?_;rintro r w' ⟨rfl,E',hw,K⟩;have u:ai B E (cZ E st id (Em.split E.g k m) d).E (cZ E st id (Em.split E.g k m) d).st w w':=by rw [<-K (W.how.imp (λc=>c.2) λc=>c.2)];exact hw
    rcases W.how with ⟨z,y⟩|⟨z,y⟩;·
     rw [z]at s1;have f:D.cD id (k:Int) d= 0:=by rw [i,<-s1,if_pos rfl]
     have I:D.wr id (k:Int) d= (dP D id (Em.split E.g k m) d (Em.split E.g k m).length).1:=by unfold Sn.En.wr;rw [if_pos f,GH,(s2 s1.symm).1]
     rw [f,I];exact ⟨by rw [y],_,_,u,⟨W.bE,W.none,W.rel⟩⟩
    ·rw [z]at s1;have f:D.cD id (k:Int) d= 162:=by rw [i,<-s1,if_neg (by decide)]
     have I:D.wr id (k:Int) d= (dP D id (Em.split E.g k m) d (Em.split E.g k m).length).1:=by unfold Sn.En.wr;rw [f,if_neg (by decide),if_pos ⟨by rw [s];exact b,rfl⟩,L s1.symm]
     rw [f,I];exact ⟨by rw [y],_,_,u,⟨W.bE,W.none,W.rel⟩⟩
   ·have J:D.jV a d= false:=by
     unfold Sn.En.jV;rw [p.n];by_cases c:0<=a;· have:¬a+ ((d.length / 64:Nat):Int)<=(E.n:Int):=λc2=>t ⟨c,c2⟩;rw [decide_eq_false this,UX]
     ·rw [decide_eq_false c,T5]
    have i:D.cD id a d= 2:=by unfold Sn.En.cD;rw [s,if_neg (by rw [b];decide),if_neg (by omega),J,if_pos rfl]
    rw [i,stay 2 i (by decide) (λ_=>by decide)];refine zg (NC h v.aj id a d b H G t) λw' hw=>?_;exact ⟨rfl,fL.ax h o hw⟩
  ·have i:D.cD id a d= 1:=by unfold Sn.En.cD;rw [s,if_neg (by rw [b];decide),if_pos G]
   rw [i,stay 1 i (by decide) (λ_=>by decide)];refine zg (NB h id a d b H G) λw' hw=>?_;exact ⟨rfl,fL.ax h o hw⟩
 ·have i:D.cD id a d= E.refuse id:=by unfold Sn.En.cD;rw [s,if_pos b]
  rw [i,stay _ i b (λc=>absurd (s.symm.trans c) b)];refine zg (NA h id a _ b) λw' hw=>?_;exact ⟨rfl,fL.ax h o hw⟩
theorem QZ (h:Ek w B E st) (hb:eY E st D):zF 13 #[zP B.d.p] w (vv B.d E st w):= vx h.dk (hb.bE.vy hb.aS) (B.sT 0)
structure Lk (w:World) (q A N G:Nat) (d0:ae.Ob) (st:Dm.St):Prop where
 low:w.cell? (zD q 0)= some (zI A)/\w.cell? (zD q 1)= some (zI N)/\w.cell? (zD q 2)= some (zI G)/\w.cell? (zD q 3)= some (zP d0.p)/\True
 dk:ae.Dk w d0 st
 qd:¬d0.fp q
 lt:q<w.heap.size
variable{A N G:Nat}
theorem Lk.below {w':World} (h:Lk w q A N G d0 st) (e:zB w w'):Lk w' q A N G d0 st:=by obtain ⟨a,b,c,d,_⟩:=h.low;have k:∀j,w'.cell? (zD q j)= w.cell? (zD q j):=λj=>e.cell (p:=(zD q j)) h.lt;exact ⟨⟨(k 0).trans a,(k 1).trans b,(k 2).trans c,(k 3).trans d,trivial⟩,h.dk.same λk hk=>e.block k (h.dk.lt k hk),h.qd,ti h.lt e.size⟩
def cL (q A N G:Nat) (d0:ae.Ob) (st:Dm.St) (w w':World):Prop:=∃d1,Lk w' q A N G d1 st/\ae.Step d0 d1 w w'
theorem cL.below {w1 w2:World} (a:zB w w1) (h:cL q A N G d0 st w1 w2):cL q A N G d0 st w w2:=by obtain ⟨d1,h1,b⟩:=h;exact ⟨d1,h1,(ae.Step.ax a).trans b⟩
theorem Lk.cP {w':World} {st':Dm.St} (h:Lk w q A N G d0 st) (hd:ae.ai d0 st' w w'):cL q A N G d0 st' w w':=by obtain ⟨d1,hk,e⟩:=hd;obtain ⟨a,b,c,d,_⟩:=h.low;have k:∀j,w'.cell? (zD q j)= w.cell? (zD q j):=λj=>So.gV (p:=(zD q j)) (e.fr.block q h.lt h.qd);refine ⟨d1,⟨⟨(k 0).trans a,(k 1).trans b,(k 2).trans c,?_,trivial⟩,hk,λhf=>(e.fp _ hf).elim h.qd λc=>by have:=h.lt;omega,ti h.lt e.fr.size⟩,e⟩;rw [e.p];exact (k 3).trans d
theorem cL.low {w':World} (h:cL q A N G d0 st w w'):w'.cell? (zD q 0)= some (zI A)/\w'.cell? (zD q 1)= some (zI N)/\w'.cell? (zD q 2)= some (zI G)/\ w'.cell? (zD q 3)= some (zP d0.p):=by obtain ⟨d1,hk,e⟩:=h;obtain ⟨a,b,c,d,_⟩:=hk.low;rw [e.p]at d;exact ⟨a,b,c,d⟩
theorem cL.box {w':World} (h:cL q A N G d0 st w w') {k:Nat} (hk:k<w.heap.size) (b:¬d0.fp k) (j:Nat):w'.cell? (zD k j)= w.cell? (zD k j):=by obtain ⟨d1,_,a⟩:=h;exact So.gV (p:=(zD k j)) (a.fr.block k hk b)
theorem Rr (h:Lk w q A N G d0 st) (b:st.P.length<=1099511627776) (c:(Dm.flush st).2= 0): zF 55 #[zP q] w λe w'=>e= nf (.tuple #[])/\cL q A N G d0 (Dm.flush st).1 w w':=by have NE:=hT (λw1=>dv w1);have a:=ae.mC h.dk b;rw [c]at a;have a:=hT a;have FI:=hT (λw' (k:ae.ai d0 (Dm.flush st).1 w w')=>h.cP k);obtain ⟨_,_,_,d,_⟩:=h.low;clear h b c;go_enter func55,ntmps55;go_wp2_with fail;refine zg a.out λw1 hw=>?_;have W:=hT hw;clear hw;go_wp2_with fail;refine zh (NE.out _) ?_;go_wp2;go_end0;exact ⟨rfl,FI.out _ W.out⟩
theorem Rs (h:Lk w q A N G d0 st) (b:st.P.length<=1099511627776) (c:(Dm.flush st).2≠0): zF 55 #[zP q] w λe w'=>e= aB (Dm.flush st).2/\cL q A N G d0 (Dm.flush st).1 w w':=by have NE:=hT (λw1=>dy _ c w1);have d:=hT (ae.mC h.dk b);have FI:=hT (λw' (k:ae.ai d0 (Dm.flush st).1 w w')=>h.cP k);obtain ⟨_,_,_,f,_⟩:=h.low;clear h b c;obtain ⟨x,a⟩:=eX1 ((Dm.flush st).2);rw [<-a]at NE d⊢;clear a;unfold aB at NE⊢;go_enter func55,ntmps55;go_wp2_with fail;refine zg d.out λw1 hw=>?_;have W:=hT hw;clear hw;go_wp2_with fail;refine zh (NE.out _) ?_;go_wp2;exact ⟨rfl,rfl,FI.out _ W.out⟩
theorem Cv (h:Lk w q A N G d0 st) (b:st.P.length<=1099511627776): zF 55 #[zP q] w λe w'=>e= aP (So.step st .fl).2/\cL q A N G d0 (So.step st .fl).1 w w':=by
 show Calls _ _ _ _ λe w'=>e= aP (Dm.flush st).2/\cL q A N G d0 (Dm.flush st).1 w w';by_cases a:(Dm.flush st).2= 0;· rw [a];exact Rr h b a
 ·rw [aX a];exact Rs h b a
theorem Rt (h:Lk w q A N G d0 st) (hu:Um.aj (A:Int) (N:Int) (G:Int)) {i:Nat} (hi:i<16) (t a n:Int) (gen:Nat) (f:Tm.bp t a n gen) (H:gen<4294967296) (I:st.P.length<=549755813888) (o:(Dm.write st ((1+i:Nat):Int) (Tm.ah t a n gen)).2= 0): zF 90 #[zP q,zI i,Sv t a n gen] w λe w'=>e= nf (.tuple #[])/\cL q A N G d0 (Dm.write st ((1+i:Nat):Int) (Tm.ah t a n gen)).1 w w':=by
 have D:=hT (λw1=>qT t a n gen w1 H f);have y:=hT (λw1=>nV (A:Int) (N:Int) (G:Int) (i:Int) w1 hu (by omega) (by omega));rw [show (1:Int) + (i:Int)= ((1+i:Nat):Int) by omega]at y;have hlen:(Tm.ah t a n gen).length= 64:=Tm.bD _ _ _ _;obtain ⟨d,hd⟩:=eX1 (Tm.ah t a n gen);rw [<-hd]at D o hlen⊢;clear hd;obtain ⟨s,F⟩:=eX1 (1+i);rw [<-F]at y o⊢;have U:=hT (λw1=>eL (.string (Om.B d)) w1);have V:=hT (λw1=>jd (s:Int) w1);obtain ⟨x,u⟩:=eX1 ((Dm.write st (s:Int) d).2);have J:Hid (∀w1,zB w w1->zF 92 #[zP d0.p,zI s, .string (Om.B d)] w1 λe w'=>e= nf (zI x)/\cL q A N G d0 (Dm.write st (s:Int) d).1 w1 w'):=hT λw1 hb=>by have:=ae.fC (h.below hb).dk (s:Int) d (by omega) (by omega) I;rw [<-u]at this;exact this.mono λe w' ⟨e1,e2⟩=>⟨e1,(h.below hb).cP e2⟩
 rw [<-u]at o;subst o;have NE:=hT (λw1=>dv w1);obtain ⟨g,c⟩:=eX2 (w.alloc (hV #[zI t,zI a,zI n,zU gen] 68));obtain ⟨m,v⟩:=kE w _ _ _ _ g c;have W:Hid (¬d0.fp w.heap.size):=hT λe=>TL _ (h.dk.lt _ e);have z:Hid (w.heap.size<g.heap.size):=hT (by rw [<-c];simp);have K:=hT v;have r:Hid (∀w1,zB g w1->zB w w1):=hT λw1 hb=>m.trans (hb.mono m.size);have C:Hid (∀w1,zB w w1->Lk w1 q A N G d0 st):=hT λw1 hb=>h.below hb;obtain ⟨b0,b1,b2,b3⟩:=v g zR;obtain ⟨a0,a1,a2,a3,_⟩:=(C.out g m).low;obtain ⟨st',b⟩:=eX1 ((Dm.write st (s:Int) d).1);rw [<-b]at J⊢;unfold Sv at D⊢;obtain ⟨G9,S⟩:=eX1 w.heap.size;clear h I hu b u hlen f H F m v hi;go_enter func90,ntmps90;go_upto_region 1 with fail;clear c;go_region_held3 (λw'=>w'.cell? (zD q 0)= some (zI A)/\w'.cell? (zD q 1)= some (zI N)/\w'.cell? (zD q 2)= some (zI G)/\w'.cell? (zD q 3)= some (zP d0.p)/\ w'.cell? (zz w 0)= some (zI t)/\w'.cell? (zz w 1)= some (zI a)/\w'.cell? (zz w 2)= some (zI n)/\w'.cell? (zz w 3)= some (zU gen)) (first|(refine ⟨?_,?_,?_,?_,?_,?_,?_,?_⟩<;>assumption)|go_keep) (first
  | (go_at_call 105;refine zg (y.out _) λw1 hb=>?_;have E:=hT (Og.dL hb);obtain ⟨t0,t1,t2,t3⟩:=K.out w1 E.out;obtain ⟨u0,u1,u2,u3,_⟩:=(C.out w1 (r.out w1 E.out)).low;clear hb)
  | (go_at_call 104;refine zh (V.out _) ?_)
  | (go_at_call 144;refine zg (D.out _) λw3 hb=>?_;have l:=zT E hb;obtain ⟨R,Q,O,M⟩:=K.out w3 l.out;obtain ⟨v0,v1,v2,v3,_⟩:=(C.out w3 (r.out w3 l.out)).low;clear hb)
  | (go_at_call 93;refine zh (U.out _) ?_)
  | (go_at_call 92;refine zg (J.out _ (r.out _ l.out)) λL hw=>?_;have T:=hT (hw.below (r.out _ l.out));obtain ⟨y0,y1,y2,y3⟩:=hw.low;have k:∀j,L.cell? (zz w j)= _:=hw.box (ti z.out l.out.size) W.out;have z0:=(k 0).trans R;have Z:=(k 1).trans Q;have Y:=(k 2).trans O;have X:=(k 3).trans M;clear hw k)
  | (go_at_call 91;refine zh (NE.out _) ?_));go_end0;exact ⟨rfl,T.out⟩
theorem Ru (h:Lk w q A N G d0 st) (hu:Um.aj (A:Int) (N:Int) (G:Int)) {i:Nat} (hi:i<16) (t a n:Int) (gen:Nat) (f:Tm.bp t a n gen) (J:gen<4294967296) (K:st.P.length<=549755813888) (k:(Dm.write st ((1+i:Nat):Int) (Tm.ah t a n gen)).2≠0): zF 90 #[zP q,zI i,Sv t a n gen] w λe w'=>e= aB (Dm.write st ((1+i:Nat):Int) (Tm.ah t a n gen)).2/\cL q A N G d0 (Dm.write st ((1+i:Nat):Int) (Tm.ah t a n gen)).1 w w':=by
 have E:=hT (λw1=>qT t a n gen w1 J f);have z:=hT (λw1=>nV (A:Int) (N:Int) (G:Int) (i:Int) w1 hu (by omega) (by omega));rw [show (1:Int) + (i:Int)= ((1+i:Nat):Int) by omega]at z;have hlen:(Tm.ah t a n gen).length= 64:=Tm.bD _ _ _ _;obtain ⟨d,hd⟩:=eX1 (Tm.ah t a n gen);rw [<-hd]at E k hlen⊢;clear hd;obtain ⟨s,I⟩:=eX1 (1+i);rw [<-I]at z k⊢;have V:=hT (λw1=>eL (.string (Om.B d)) w1);have W:=hT (λw1=>jd (s:Int) w1);obtain ⟨x,v⟩:=eX1 ((Dm.write st (s:Int) d).2);have L:Hid (∀w1,zB w w1->zF 92 #[zP d0.p,zI s, .string (Om.B d)] w1 λe w'=>e= nf (zI x)/\cL q A N G d0 (Dm.write st (s:Int) d).1 w1 w'):=hT λw1 hb=>by have:=ae.fC (h.below hb).dk (s:Int) d (by omega) (by omega) K;rw [<-v]at this;exact this.mono λe w' ⟨e1,e2⟩=>⟨e1,(h.below hb).cP e2⟩
 rw [<-v]at k⊢;have NE:=hT (λw1=>dy x k w1);obtain ⟨l,c⟩:=eX2 (w.alloc (hV #[zI t,zI a,zI n,zU gen] 68));obtain ⟨r,y⟩:=kE w _ _ _ _ l c;have X:Hid (¬d0.fp w.heap.size):=hT λe=>TL _ (h.dk.lt _ e);have C:Hid (w.heap.size<l.heap.size):=hT (by rw [<-c];simp);have M:=hT y;have u:Hid (∀w1,zB l w1->zB w w1):=hT λw1 hb=>r.trans (hb.mono r.size);have D:Hid (∀w1,zB w w1->Lk w1 q A N G d0 st):=hT λw1 hb=>h.below hb;obtain ⟨b0,b1,b2,b3⟩:=y l zR;obtain ⟨a0,a1,a2,a3,_⟩:=(D.out l r).low;obtain ⟨st',b⟩:=eX1 ((Dm.write st (s:Int) d).1);rw [<-b]at L⊢;unfold Sv at E⊢;obtain ⟨G9,T⟩:=eX1 w.heap.size;clear h K hu b v hlen f J I r y hi k;unfold aB at NE⊢;go_enter func90,ntmps90;go_upto_region 1 with fail;clear c;go_region_held (λw'=>w'.cell? (zD q 0)= some (zI A)/\w'.cell? (zD q 1)= some (zI N)/\w'.cell? (zD q 2)= some (zI G)/\w'.cell? (zD q 3)= some (zP d0.p)/\ w'.cell? (zz w 0)= some (zI t)/\w'.cell? (zz w 1)= some (zI a)/\w'.cell? (zz w 2)= some (zI n)/\w'.cell? (zz w 3)= some (zU gen)) (first|(refine ⟨?_,?_,?_,?_,?_,?_,?_,?_⟩<;>assumption)|go_keep) (first
  | (go_at_call 105;refine zg (z.out _) λw1 hb=>?_;have F:=hT (Og.dL hb);obtain ⟨t0,t1,t2,t3⟩:=M.out w1 F.out;obtain ⟨u0,u1,u2,u3,_⟩:=(D.out w1 (u.out w1 F.out)).low;clear hb)
  | (go_at_call 104;refine zh (W.out _) ?_)
  | (go_at_call 144;refine zg (E.out _) λw3 hb=>?_;have o:=zT F hb;obtain ⟨S,R,Q,O⟩:=M.out w3 o.out;obtain ⟨v0,v1,v2,v3,_⟩:=(D.out w3 (u.out w3 o.out)).low;clear hb)
  | (go_at_call 93;refine zh (V.out _) ?_)
  | (go_at_call 92;refine zg (L.out _ (u.out _ o.out)) λH hw=>?_;have U:=hT (hw.below (u.out _ o.out));obtain ⟨y0,y1,y2,y3⟩:=hw.low;have m:∀j,H.cell? (zz w j)= _:=hw.box (ti C.out o.out.size) X.out;have z0:=(m 0).trans S;have z1:=(m 1).trans R;have Z:=(m 2).trans Q;have Y:=(m 3).trans O;clear hw m)
  | (go_at_call 91;refine zh (NE.out _) ?_;refine T7 λhn=>?_;have g:=hn ⟨rfl,rfl,U.out⟩;clear hn;refine So.jg (by assumption) g {tmps:=#[],defers:= []} H ?_));exact g.elim
theorem Rv (h:Lk w q A N G d0 st) (hu:Um.aj (A:Int) (N:Int) (G:Int)) {i:Nat} (hi:i<16) (t a n:Int) (gen:Nat) (b:Tm.bp t a n gen) (d:gen<4294967296) (f:st.P.length<=549755813888): zF 90 #[zP q,zI i,Sv t a n gen] w λe w'=>e= aP (So.step st (dh i t a n gen)).2/\cL q A N G d0 (So.step st (dh i t a n gen)).1 w w':=by
 show Calls _ _ _ _ λe w'=>e= aP (Dm.write st ((1+i:Nat):Int) (Tm.ah t a n gen)).2/\cL q A N G d0 (Dm.write st ((1+i:Nat):Int) (Tm.ah t a n gen)).1 w w';by_cases c:(Dm.write st ((1+i:Nat):Int) (Tm.ah t a n gen)).2= 0;· rw [c];exact Rt h hu hi t a n gen b d f c
 ·rw [aX c];exact Ru h hu hi t a n gen b d f c
def c_ (k:Nat):List So.Op:=(MR k).map λi=>dh i 0 0 0 0
theorem rR (k:Nat):c_ (k+1)= c_ k ++ [dh k 0 0 0 0]:=by unfold c_;rw [TO,R0];rfl
theorem Rw (k n:Nat):∃r,c_ (k+n)= c_ k ++ r:=by induction n with
 | zero=>exact ⟨[],(List.append_nil _).symm⟩
 | succ n ih => obtain ⟨r,a⟩:=ih;exact ⟨r ++ [dh (k+n) 0 0 0 0],by rw [<-Nat.add_assoc,rR,a,NR]⟩
def fP (A N G:Nat):So.Op:= .wr 0 (Um.ah (A:Int) (N:Int) (G:Int))
def cQ (A N G:Nat):List So.Op:=((c_ 16 ++ [.fl]) ++ [fP A N G]) ++ [.fl]
theorem cL.next {d1:ae.Ob} {w1 w2:World} (a:ae.Step d0 d1 w w1) (h:cL q A N G d1 st w1 w2):cL q A N G d0 st w w2:=by obtain ⟨d2,h1,b⟩:=h;exact ⟨d2,h1,a.trans b⟩
theorem Cw (k:Nat):((c_ k).map So.sec).sum<=k:=by induction k with
 | zero=>exact nm _
 | succ k ih =>
 rw [rR,R0,Vb];have:([dh k 0 0 0 0].map So.sec).sum= 1:=by show (Tm.ah 0 0 0 0).length / 64+0= 1;rw [Tm.bD]
 omega
theorem Cx {a b:List So.Op} (h:(So.aa st a).2≠0):(So.aa st (a ++ b)).2≠0/\So.aa st (a ++ b)= So.aa st a:=by rw [So.ke _ h];exact ⟨h,rfl⟩
theorem Rx (hk:k<=16) (h:(So.aa st (c_ k)).2≠0) (A N G:Nat):So.aa st (cQ A N G)= So.aa st (c_ k):=by obtain ⟨r,a⟩:=Rw k (16 - k);rw [show k+ (16 - k)= 16 by omega]at a;unfold cQ;rw [a,NR,NR,NR];exact So.ke _ h
def ng (q A N G:Nat) (d0:ae.Ob) (st:Dm.St) (w:World) (e:Ending) (w':World):Prop:=e= aP (So.aa st (cQ A N G)).2/\cL q A N G d0 (So.aa st (cQ A N G)).1 w w'
structure lN (q A N G:Nat) (d0:ae.Ob) (st:Dm.St) (w:World) (ops:List So.Op) (d1:ae.Ob) (wr:World):Prop where
 ok:(So.aa st ops).2= 0
 lk:Lk wr q A N G d1 (So.aa st ops).1
 ez:ae.Step d0 d1 w wr
variable{ops:List So.Op}
theorem lN.yes {d1:ae.Ob} {w2:World} {o:So.Op} (h:lN q A N G d0 st w ops d1 wr) (hw:cL q A N G d1 (So.step (So.aa st ops).1 o).1 wr w2) (c:(So.step (So.aa st ops).1 o).2= 0):∃d2,lN q A N G d0 st w (ops ++ [o]) d2 w2:=by
 obtain ⟨d2,b,a⟩:=hw;have e:So.aa st (ops ++ [o])= ((So.step (So.aa st ops).1 o).1,(So.step (So.aa st ops).1 o).2):=by rw [So.ia _ h.ok,So.kd]
 exact ⟨d2,by rw [e];exact c,by rw [e];exact b,h.ez.trans a⟩
theorem lN.no {d1:ae.Ob} {w2:World} {o:So.Op} (h:lN q A N G d0 st w ops d1 wr) (hw:cL q A N G d1 (So.step (So.aa st ops).1 o).1 wr w2) (a:(So.step (So.aa st ops).1 o).2≠0) (b:(So.aa st (ops ++ [o])).2≠0->So.aa st (cQ A N G)= So.aa st (ops ++ [o])):ng q A N G d0 st w (aB (So.step (So.aa st ops).1 o).2) w2:=by
 have e:So.aa st (ops ++ [o])= ((So.step (So.aa st ops).1 o).1,(So.step (So.aa st ops).1 o).2):=by rw [So.ia _ h.ok,So.kd]
 unfold ng;rw [b (by rw [e];exact a),e];exact ⟨(aX a).symm,cL.next h.ez hw⟩
theorem Ry (h:Lk w q A N G d0 st) (hu:Um.aj (A:Int) (N:Int) (G:Int)) (hP:st.P.length<=68719476736): zF 43 #[zP q] w (ng q A N G d0 st w):=by
 have H0:Hid (lN q A N G d0 st w (c_ 0) d0 w):=hT ⟨rfl,h,ae.Step.refl _ _⟩;have M:=h.dk.ok;have HU:=hT hu;have J:Hid (∀ops,(ops.map So.sec).sum<=100->(So.aa st ops).1.P.length<=137438953472):=hT λops ho=>by have:=So.kS M ops;omega
 have K:=Cw 16;have W:=hT (J.out (c_ 16) (by omega));have V:=hT (J.out (c_ 16 ++ [.fl]) (by rw [R0,Vb];show _+0<=_;omega));have L:(Um.ah (A:Int) (N:Int) (G:Int)).length= 64:=Um.bD _ _ _;have U:=hT (J.out ((c_ 16 ++ [.fl]) ++ [fP A N G]) (by
  rw [R0,Vb,R0,Vb];have:([fP A N G].map So.sec).sum= 1:=by show (Um.ah (A:Int) (N:Int) (G:Int)).length / 64+0= 1;rw [L]
  have:([So.Op.fl].map So.sec).sum= 0:=rfl;omega));have I:=hT (λw1=>QM (A:Int) (N:Int) (G:Int) w1 hu);clear h hu hP K;go_enter func43,ntmps43;go_wp2_with fail;go_loopw [3] (λi wr=>∃k:Nat,i= zI k/\k<=16/\∃d1,Hid (lN q A N G d0 st w (c_ k) d1 wr)) (λi _=>16 - (wo i).toNat);case atStart=>exact ⟨0,rfl,yb _,d0,H0⟩
 case round=>
  obtain ⟨k,rfl,hk,d1,x⟩:=hrel;by_cases O:k<16;·
   have S:decide ((k:Int) <16):=by simp;omega
   have C:decide (k<16):=by simp;omega
   have ab:lg.wrap ((k:Int) +1)= ((k+1:Nat):Int):=by rw [rr _ (by omega)];rfl
   have R:=J.out (c_ k) (by have:=Cw k;omega);have n:=Rv x.out.lk HU.out O 0 0 0 0 (by rw [Tm.mL];rfl) (by decide) (by omega);obtain ⟨X,z⟩:=eX1 ((So.step (So.aa st (c_ k)).1 (dh k 0 0 0 0)).2);have d:=hT (λw2 hw h0=>x.out.yes (w2:=w2) (o:=dh k 0 0 0 0) hw h0);have g:=hT (λw2 hw h0=>x.out.no (w2:=w2) (o:=dh k 0 0 0 0) hw h0 λhf=>by rw [<-rR]at hf⊢;exact Rx (by omega) hf A N G);rw [<-rR]at d;unfold Sv at n;rw [<-z]at n d g;have n:=hT n;clear z R;by_cases b:X= 0;·
    subst b;rw [cF]at n;go_wp2_with fail;refine zg n.out λw2 hw=>?_;obtain ⟨d2,a⟩:=d.out w2 hw (by first|rfl|trivial);have NX:=hT a;clear hw a;go_wp2_with fail;go_roundw;case rel=>exact ⟨k+1,by go_num,by omega,d2,NX⟩
    case measure=>simp [wo];omega
   ·rw [aX b]at n;have g:=hT (λw2 hw=>g.out w2 hw b);unfold aB at n g;clear b;go_wp2_with fail;refine zg n.out λw2 hw=>?_;have c:=hT (g.out w2 hw);clear hw;go_wp2;exact ⟨rfl,c.out⟩
  ·have S:decide ((k:Int) <16)= false:=by simp;omega
   have C:decide (k<16)= false:=by simp;omega
   have e:k= 16:=by omega
   subst e;have r:=Cv x.out.lk (by have:=W.out;omega);obtain ⟨X,z⟩:=eX1 ((So.step (So.aa st (c_ 16)).1 .fl).2);have d:=hT (λw2 hw h0=>x.out.yes (w2:=w2) (o:= .fl) hw h0);have g:=hT (λw2 hw h0=>x.out.no (w2:=w2) (o:= .fl) hw h0 λhf=>by unfold cQ;rw [So.ke _ (Cx hf).1,(Cx hf).2]);rw [<-z]at r d g;have r:=hT r;clear z;by_cases b:X= 0;·
    subst b;rw [cF]at r;go_wp2_with fail;refine zg r.out λw2 hw=>?_;obtain ⟨d2,a⟩:=d.out w2 hw (by first|rfl|trivial);have MU:=hT (λv w1=>eL v w1);have D:Hid (∀w1,zB w2 w1->zF 92 #[zP d2.p,zI 0, .string (Om.B (Um.ah (A:Int) (N:Int) (G:Int)))] w1 λe w'=>e= nf (zI (So.step (So.aa st (c_ 16 ++ [.fl])).1 (fP A N G)).2)/\cL q A N G d2 (So.step (So.aa st (c_ 16 ++ [.fl])).1 (fP A N G)).1 w1 w'):=hT λw1 hb=>by have:=ae.fC (a.lk.below hb).dk 0 (Um.ah (A:Int) (N:Int) (G:Int)) (by omega) (by omega) (by have:=V.out;omega);exact this.mono λe w' ⟨e1,e2⟩=>⟨e1,(a.lk.below hb).cP e2⟩
    obtain ⟨Y,hY⟩:=eX1 ((So.step (So.aa st (c_ 16 ++ [.fl])).1 (fP A N G)).2);have j:=hT (λw3 hw h0=>a.yes (w2:=w3) (o:=fP A N G) hw h0);have t:=hT (λw3 hw h0=>a.no (w2:=w3) (o:=fP A N G) hw h0 λhf=>by unfold cQ;rw [So.ke _ hf]);rw [<-hY]at D j t;have H:Hid (∀w1,zB w2 w1->Lk w1 q A N G d2 (So.aa st (c_ 16 ++ [.fl])).1):=hT λw1 hb=>a.lk.below hb;obtain ⟨a0,a1,a2,a3,_⟩:=a.lk.low;clear hw a hY r d g;generalize Om.B (Um.ah (A:Int) (N:Int) (G:Int))= SS at I D;generalize (So.step (So.aa st (c_ 16 ++ [.fl])).1 (fP A N G)).1= st3 at D j t;unfold Uv at I;by_cases l:Y= 0;·
     subst l;have NE:=hT (λw1=>dv w1);go_wp2_with fail;go_region_held3 (λw'=>w'.cell? (zD q 0)= some (zI A)/\w'.cell? (zD q 1)= some (zI N)/\w'.cell? (zD q 2)= some (zI G)/\w'.cell? (zD q 3)= some (zP d2.p)) (first|(refine ⟨?_,?_,?_,?_⟩<;>assumption)|go_keep) (first
      | (go_at_call 94;refine zg (I.out _) λw4 hb=>?_;have u:=hT (Og.dL hb);obtain ⟨p0,p1,p2,p3,_⟩:=(H.out w4 u.out).low;clear hb)
      | (go_at_call 93;refine zh (MU.out _ _) ?_)
      | (go_at_call 92;refine zg (D.out _ u.out) λw6 hw=>?_;have T:=hT hw;obtain ⟨y0,y1,y2,y3⟩:=hw.low;clear hw)
      | (go_at_call 91;refine zh (NE.out _) ?_));obtain ⟨d3,m⟩:=j.out w6 (T.out.below u.out) (by first|rfl|trivial);have f:=hT (Cv m.lk (by have:=U.out;omega));obtain ⟨Z,Q⟩:=eX1 ((So.step (So.aa st ((c_ 16 ++ [.fl]) ++ [fP A N G])).1 .fl).2);have EQ:So.aa st (cQ A N G)= ((So.step (So.aa st ((c_ 16 ++ [.fl]) ++ [fP A N G])).1 .fl).1,(So.step (So.aa st ((c_ 16 ++ [.fl]) ++ [fP A N G])).1 .fl).2):=by unfold cQ;rw [So.ia _ m.ok,So.kd]
     have c:Hid (∀w7,cL q A N G d3 (So.step (So.aa st ((c_ 16 ++ [.fl]) ++ [fP A N G])).1 .fl).1 w6 w7->ng q A N G d0 st w (aP Z) w7):=hT λw7 hw=>by unfold ng;rw [EQ,Q];exact ⟨rfl,cL.next m.ez hw⟩
     rw [<-Q]at f;clear EQ m Q;by_cases s:Z= 0;· subst s;rw [cF]at f c;go_wp2_with fail;refine zg f.out λw7 hw=>?_;have F:=hT (c.out w7 hw);clear hw;go_wp2_with fail;go_end0;exact F.out
     ·rw [aX s]at f c;unfold aB at f c;clear s;go_wp2_with fail;refine zg f.out λw7 hw=>?_;have F:=hT (c.out w7 hw);clear hw;go_wp2;exact ⟨rfl,F.out⟩
    ·have NE:=hT (λw1=>dy Y l w1);have E:=hT (λw3 hw=>t.out w3 hw l);unfold aB at NE E;clear l;go_wp2_with fail;go_region_held (λw'=>w'.cell? (zD q 0)= some (zI A)/\w'.cell? (zD q 1)= some (zI N)/\w'.cell? (zD q 2)= some (zI G)/\w'.cell? (zD q 3)= some (zP d2.p)) (first|(refine ⟨?_,?_,?_,?_⟩<;>assumption)|go_keep) (first
     | (go_at_call 94;refine zg (I.out _) λw4 hb=>?_;have u:=hT (Og.dL hb);obtain ⟨p0,p1,p2,p3,_⟩:=(H.out w4 u.out).low;clear hb)
     | (go_at_call 93;refine zh (MU.out _ _) ?_)
     | (go_at_call 92;refine zg (D.out _ u.out) λw6 hw=>?_;have T:=hT hw;obtain ⟨y0,y1,y2,y3⟩:=hw.low;clear hw)
     | (go_at_call 91;refine zh (NE.out _) ?_;refine T7 λhn=>?_;have y:=hn ⟨rfl,E.out _ (T.out.below u.out)⟩;clear hn;refine So.jg (by assumption) y {tmps:=#[],defers:= []} w6 ?_));exact y.elim
   ·rw [aX b]at r;have g:=hT (λw2 hw=>g.out w2 hw b);unfold aB at r g;clear b;go_wp2_with fail;refine zg r.out λw2 hw=>?_;have c:=hT (g.out w2 hw);clear hw;go_wp2;exact ⟨rfl,c.out⟩
def kK (a n g:Nat):En:=⟨a,n,g,vw 16 Sn.none⟩
def ju (a n g:Nat) (b:zL):Go.Proofs.YtchihokmgmchcaaGreat.Sn.En:=⟨a,n,g,b,vw 16 Go.Proofs.YtchihokmgmchcaaGreat.Sn.One.none⟩
theorem Cy {α:Type} (x:α) (n i:Nat):(vw n x).getD i x= x:=by
 by_cases h:i<n;· rw [FU,C1 (by rw [Tq];exact h),List.getElem_replicate];rfl
 ·rw [FU,Tv (by rw [Tq];omega)];rfl
theorem o_ (a n g i:Nat):(kK a n g).one i= Sn.none:=Cy _ _ _
theorem vz (a n g:Nat) (b:zL) (i:Nat):(ju a n g b).one i= Go.Proofs.YtchihokmgmchcaaGreat.Sn.One.none:=Cy _ _ _
theorem jX (a n g i:Nat):((kK a n g).one i).t= 0:=by rw [o_];rfl
theorem Rz (a n g:Nat):(kK a n g).al= 0:=by
 by_cases h:(kK a n g).al= 0;· exact h
 ·obtain ⟨i,_,_,b⟩:=jn h;rw [jX]at b;exact absurd b (by decide)
theorem RB {a n g:Nat} (hu:Um.aj (a:Int) (n:Int) (g:Int)):Form (kK a n g) where
 aj:=hu
 len:=by unfold kK;simp
 slot:=λ i hi=>by rw [o_];rfl
 gen:=λ i hi=>by rw [o_];decide
 pa:=λ i hi h=>absurd (jX a n g i) h
 fit:=λ i hi h=>absurd (jX a n g i) h
 apart:=λ i j hi hj hij h=>absurd (jX a n g i) h
 two:=λ i j hi hj h=>by rw [jX]at h;exact absurd h (by decide)
 val:=λ i hi h=>by rw [jX]at h;exact absurd h (by decide)
theorem Cz {x:Nat} {c:zL} (a:c.length= 64) (h1:k<=x) (b:x<k+c.length / 64):x= k/\(c.drop (64* (x - k))).take 64= c:=by
 have e:x= k:=by rw [a]at b;omega
 subst e;exact ⟨rfl,by rw [TK,TW,TA,OP (by omega)]⟩
theorem vA {a n g x:Nat} {d:zL} (h:So.Wr (cQ a n g) x d):(x= 0/\d= Um.ah (a:Int) (n:Int) (g:Int))\/∃i,i<16/\x= 1+i/\d= Tm.ah 0 0 0 0:=by
 obtain ⟨k,c,hm,h1,j,rfl⟩:=h;unfold cQ at hm;rcases RR.1 hm with hm|hm;·
  rcases RR.1 hm with hm|hm;·
   rcases RR.1 hm with hm|hm;· obtain ⟨i,hi,e⟩:=Tp.1 hm;unfold dh at e;injection e with e1 e2;subst e1 e2;obtain ⟨f,b⟩:=Cz (Tm.bD 0 0 0 0) h1 j;exact .inr ⟨i,RP.1 hi,f,b⟩
   ·rw [H5]at hm;exact absurd hm (by intro c;cases c)
  ·rw [H5]at hm;unfold fP at hm;injection hm with e1 e2;subst e1 e2;obtain ⟨f,b⟩:=Cz (Um.bD _ _ _) h1 j;exact .inl ⟨f,b⟩
 ·rw [H5]at hm;exact absurd hm (by intro c;cases c)
theorem RG (a n g:Nat):So.Wr (cQ a n g) 0 (Um.ah (a:Int) (n:Int) (g:Int)):=by refine ⟨0,_,We _ (List.mem_append_right _ (H5.2 rfl)),nm _,by rw [Um.bD];decide,?_⟩;rw [TK,TW,TA,OP (by rw [Um.bD];exact nm _)]
theorem RJ (a n g:Nat) {i:Nat} (hi:i<16):So.Wr (cQ a n g) (1+i) (Tm.ah 0 0 0 0):=by refine ⟨1+i,_,We _ (We _ (We _ (Tp.2 ⟨i,RP.2 hi,rfl⟩))),nm _,by rw [Tm.bD];omega,?_⟩;rw [TK,TW,TA,OP (by rw [Tm.bD];exact nm _)]
theorem vB {a n g:Nat} (hu:Um.aj (a:Int) (n:Int) (g:Int)) {b:zL} (u:b.length= 64*a): (So.aa (Dm.load b) (cQ a n g)).2= 0/\eY (kK a n g) (So.aa (Dm.load b) (cQ a n g)).1 (ju a n g ((b.drop 1088).take (64*n))):=by
 have B:=RB hu;have D:1<=n/\n<=1048576/\1<=g/\g<=128/\n+17<=a/\a<=1048576:=B.small;have m:Dm.pad b= b:=by unfold Dm.pad;rw [u,show (64 - 64*a % 64) % 64= 0 by omega];simp
 have z:(Dm.load b).S= Dm.chunks b:=by unfold Dm.load;rw [m]
 have s:(Dm.load b).S.length= a:=by rw [z,Dm.iV,u];omega
 have f:=Dm.lS b (by rw [u];omega);have v:So.gu (Dm.load b):=⟨rfl,rfl⟩;have C:∀o∈cQ a n g,So.Good (Dm.load b).S.length o:=λo l=>by rw [s];cases o with
  | fl=>trivial
  | wr k c =>
  unfold cQ at l;rcases RR.1 l with hm|hm;·
   rcases RR.1 hm with hm|hm;·
    rcases RR.1 hm with hm|hm;· obtain ⟨i,hi,e⟩:=Tp.1 hm;have:=RP.1 hi;unfold dh at e;injection e with e1 e2;subst e1 e2;show (Tm.ah 0 0 0 0).length % 64= 0/\1+i+ (Tm.ah 0 0 0 0).length / 64<=a;rw [Tm.bD];omega
    ·rw [H5]at hm;exact absurd hm (by intro c;cases c)
   ·rw [H5]at hm;unfold fP at hm;injection hm with e1 e2;subst e1 e2;show (Um.ah _ _ _).length % 64= 0/\0+ (Um.ah _ _ _).length / 64<=a;rw [Um.bD];omega
  ·rw [H5]at hm;exact absurd hm (by intro c;cases c)
 obtain ⟨w,r⟩:=So.kf f v C;obtain ⟨q,t⟩:=So.gL f (cQ a n g);have A:(So.aa (Dm.load b) (cQ a n g)).1.P= []:=So.lX (ops:=(c_ 16 ++ [.fl]) ++ [fP a n g]) w;have l:=λx=>So.lW f w x;have p:∀j,j<n->Dm.one (So.aa (Dm.load b) (cQ a n g)).1 (17+j)= So.piece ((b.drop 1088).take (64*n)) j:=λj hj=>by rw [l,So.fR _ λd hd=>by rcases vA hd with ⟨e,_⟩|⟨i,hi,e,_⟩<;>omega];show Dm.last [] (17+j) ((Dm.load b).S.getD (17+j) [])= _;rw [z,Dm.rZ _ _ (by omega)];show (b.drop (64* (17+j))).take 64= ((((b.drop 1088).take (64*n)).drop (64*j)).take 64);rw [List.drop_take,Uu,List.take_take,show min 64 (64*n - 64*j)= 64 by omega,show 1088+64*j= 64* (17+j) by omega]
 refine ⟨w,⟨B,q,by rw [t,s];rfl,r,⟨?_,λi hi=>?_,λi hi h=>absurd (jX a n g i) h⟩,λy hy=>by rw [A]at hy;cases hy⟩,A,?_⟩;·
  rw [l];refine So.iW _ (RG a n g) λd hd=>?_;rcases vA hd with ⟨_,e⟩|⟨i,_,e,_⟩;· exact e
  ·omega
 ·rw [l,o_];refine So.iW _ (RJ a n g hi) λd hd=>?_;rcases vA hd with ⟨e,_⟩|⟨i,_,_,e⟩;· omega
  ·exact e
 ·refine ⟨rfl,rfl,rfl,by unfold ju;simp,?_,λi hi=>?_,λi hi h=>?_,λi hi h=>absurd (jX a n g i) h,λi hi h=>?_⟩;· show (b.drop 1088).take (64*n)= So.bI n _;symm;refine So.tW (by rw [E4,List.length_drop];omega) λj hj=>?_;unfold En.aF;rw [if_pos (Rz a n g)];exact p j hj
  ·rw [vz,o_];exact ⟨rfl,rfl,rfl,rfl⟩
  ·rw [vz];exact ⟨rfl,rfl,rfl⟩
  ·rw [jX]at h;exact absurd h (by decide)
theorem RT (w:World) (a n g:Int) (W0:World) (h:w.alloc (zK a n g 23)= W0):W0.cell? (zz w 0)= some (zI a)/\W0.cell? (zz w 1)= some (zI n)/\W0.cell? (zz w 2)= some (zI g):=by subst h;have b:=heap_alloc_new w (zK a n g 23);refine ⟨?_,?_,?_⟩<;>(rw [cell_of_row _ _ _ _ _ _ b];rfl)
theorem CA (hk:ae.Dk w o st) {a n g:Nat} (hu:Um.aj (a:Int) (n:Int) (g:Int)) (u:a<=st.S.length) (T:st.P.length<=68719476736): zF 12 #[zP o.p, zO a n g] w λe w'=>e= nf (zI (So.aa st (cQ a n g)).2)/\ae.ai o (So.aa st (cQ a n g)).1 w w':=by
 have OF:=hT (λw1=>tp (a:Int) (n:Int) (g:Int) w1 hu);obtain ⟨F,s⟩:=eX2 (w.alloc (zK a n g 23));have HB:Hid (zB w F):=hT (by rw [<-s];exact zA);obtain ⟨Y,b1,b2⟩:=RT w _ _ _ F s;have B:F.heap[w.heap.size]?= some (hV #[zI a,zI n,zI g] 23 (0,0)):=by rw [<-s];exact heap_alloc_new w _
 have HC:Hid (∀w1,zB F w1->w1.cell? (zz w 0)= some (zI a)):=hT λw1 d=>by have:=(d.block w.heap.size (DN.1 B).1).trans B;rw [cell_of_row _ _ _ _ _ _ this];rfl
 have U:Hid (∀w1,zB w w1->zF 41 #[zP o.p] w1 λe w'=>e= nf (zI st.S.length)/\w1= w'):=hT λw1 d=>ae.nY (hk.same λk h=>d.block k (hk.lt k h));have HK:Hid (∀w1,zB w w1->ae.Dk w1 o st):=hT λw1 d=>hk.same λk h=>d.block k (hk.lt k h);have D:=hT λk h=>hk.lt k h;have d1:decide ((st.S.length:Int) < (a:Int))= false:=by simp;omega
 have d2:decide (st.S.length<a)= false:=by simp;omega
 have LF:Hid (∀w1 q,Lk w1 q a n g o st->zF 43 #[zP q] w1 (ng q a n g o st w1)):=hT λw1 q hl=>Ry hl hu T;generalize st.S.length= L at U d1 d2;clear hk hu u B T;go_enter func12,ntmps12;go_wp2_with fail;clear s;refine zg (OF.out _) λw1 d=>?_;have K:=zT HB d;obtain ⟨b,y⟩:=eX2 (w1.alloc (zK a n g 85));have v:zB w1 b:=by rw [<-y];exact zA
 have m:b.heap[w1.heap.size]?= some (hV #[zI a,zI n,zI g] 85 (0,0)):=by rw [<-y];exact heap_alloc_new w1 _
 have l0:b.cell? (zz w1 0)= some (zI a):=zW m;have l1:b.cell? (zz w1 1)= some (zI n):=zW m;have l2:b.cell? (zz w1 2)= some (zI g):=zW m;have t:=zT K v;have c0:=HC.out b (d.trans (v.mono d.size));clear d v m Y b1 b2;go_wp2_with fail;clear y;go_quiet (first|(go_at_call 41;exact Calls.quiet_of_same ((U.out _ (So.fc t.out _)).mono λ_ _ h=>⟨h.1,h.2.symm⟩)));have J:=hT (So.fc t.out nq);obtain ⟨z,f⟩:=eX1 ((((zeroCells93.setIfInBounds 0 (Tr lg (a:Int))).setIfInBounds 1 (Tr lg (n:Int))).setIfInBounds 2 (Tr lg (g:Int))).setIfInBounds 3 (xb (some {block:=o.p,off:=0})));have Q:z[0]?= some (Tr lg (a:Int)):=by rw [f];rfl
 have O:z[1]?= some (Tr lg (n:Int)):=by rw [f];rfl
 have N:z[2]?= some (Tr lg (g:Int)):=by rw [f];rfl
 have M:z[3]?= some (xb (some {block:=o.p,off:=0})):=by rw [f];rfl
 obtain ⟨l,r⟩:=eX2 ((b.drewN nq).alloc (hV z 93));have AT:Hid (zF 42 #[.func (.func 43) #[zP b.heap.size] #[]] l λe w'=>e= nf (zI (So.aa st (cQ a n g)).2)/\ae.ai o (So.aa st (cQ a n g)).1 w w'):=hT (by
  have i:l.heap[b.heap.size]?= some (hV z 93 (0,0)):=by rw [<-r];exact heap_alloc_new (b.drewN nq) _
  have H:Below b.heap.size (b.drewN nq) l:=by rw [<-r];exact (Below.refl _ (b.drewN nq)).alloc (nm _) _
  have j:=J.out.trans (H.mono t.out.size);have G:Lk l b.heap.size a n g o st:=⟨⟨by rw [cell_of_row _ _ _ _ _ _ i];exact Q,by rw [cell_of_row _ _ _ _ _ _ i];exact O,by rw [cell_of_row _ _ _ _ _ _ i];exact N,by rw [cell_of_row _ _ _ _ _ _ i];exact M,trivial⟩,HK.out l j,λu=>by have:=D.out _ u;have:=t.out.size;omega,(DN.1 i).1⟩;obtain ⟨W,E⟩:=eX2 (l.alloc (hV #[zI 0] 38));have d:zB l W:=by rw [<-E];exact zA
  have B:W.heap[l.heap.size]?= some (hV #[zI 0] 38 (0,0)):=by rw [<-E];exact heap_alloc_new l _
  have V:W.heap.size= l.heap.size+1:=by rw [<-E];simp
  have R:¬o.fp l.heap.size:=λu=>by have:=D.out _ u;have:=j.size;omega
  refine (ky (Z:=λx w2=>x= (So.aa st (cQ a n g)).2/\cL b.heap.size a n g o (So.aa st (cQ a n g)).1 W w2) (enters_of func43 (by kernel_rfl) rfl) ?_ ?_).mono ?_;· rintro x w2 ⟨_,d1,_,A⟩;rw [A.fr.block _ (by omega) R,B]
  ·rw [E];refine (LF.out W b.heap.size (G.below d)).mono ?_;rintro e w2 ⟨h1,C⟩;exact ⟨_,h1,rfl,C⟩
  ·rintro e w' ⟨x,w2,rfl,⟨rfl,d1,h1,C⟩,u⟩;refine ⟨rfl,d1,h1.dk.keep u λk hk e=>?_,?_⟩;·
    subst e;rcases C.fp _ hk with c|c;· exact R c
    ·omega
   ·have A:=(ae.Step.ax (j.trans (d.mono j.size))).trans C;exact ⟨A.fr.trans u λk h1 C=>by have:=j.size;omega,A.fp,A.p⟩);rw [<-r,f]at AT;obtain ⟨X,I⟩:=eX1 ((So.aa st (cQ a n g)).2);have HX:=hT I;rw [<-I]at AT;clear r f Q O N M I;go_wp2_with fail;refine zg AT.out λw4 hw=>?_;have HW:=hT hw;clear hw;go_wp2_with fail;go_ret;exact ⟨by rw [<-HX.out];rfl,HW.out⟩
end Se
end
end Go.Proofs.YtchihokmgmchcaaGreat
