/- Sne1, of the proof -/
import Derived.Test.YtchihokmgmchcaaGreatSrSna1
import Derived.Test.YtchihokmgmchcaaGreatSq0K
set_option linter.unusedVariables false
set_option maxRecDepth 100000
set_option maxHeartbeats 4000000
namespace Go.Proofs.YtchihokmgmchcaaGreat
open Go.Proofs.Tryz
open List renaming append_nil->Uj,drop_succ_cons->U0,drop_zero->TA,getD_eq_getElem?_getD->FU,getElem?_eq_getElem->C1,getElem?_toArray->Ud,length_append->DC,length_drop->IV,length_filter_le->Uw,length_map->PN,length_range->Tw,length_set->TB,length_take->E4,map_append->R0,map_congr_left->Ua,mem_range->RP,mem_singleton->H5,replicate->vw,size_toArray->Uh,take_succ_cons->UZ,take_succ_eq_append_getElem->TD,take_zero->Tj
open _root_.Array renaming ext_getElem?->WL,getElem?_eq_some_iff->DN,replicate->Vr
open Go.Obj renaming cells->hV
open Go.Value renaming ownBlock->TS,pointer->xb,tuple->CE
open Nat renaming add_assoc->Vv,div_add_mod->Uf,le_mul_of_pos_right->UA,le_refl->nm,le_trans->A6,lt_irrefl->TL,lt_of_lt_of_le->ti,mod_lt->Tu,mul_comm->SH,zero_le->yb
open Go.Instr renaming index->VW
open Go.Ending renaming returned->nf
open Go.IntKind renaming i64->lg
open Go.IntWalk renaming i64_in->rr
open Go.Lib renaming hid->hT,intOf->wo
open Bool renaming and_eq_true->N6,and_true->Vp,not_false->Yq
open Go.World renaming cell?_setCell_same->UY,setCell->Vk
open Go.RowKit.Below renaming refl->G3
open Classical renaming byContradiction->T7
open _root_.ByteArray renaming size_extract->Vu
open Int renaming natCast_nonneg->WV,toNat_natCast->GH
open Option renaming isNone_none->Yp
section
namespace Se
open Go.RowKit
structure Sn where
 t:Nat
 st:Nat
 ln:Nat
 gen:Nat
 M:So.Ms
def Sn.none:Sn:=⟨0,0,0,0,⟨[], [],false⟩⟩
structure En where
 a:Nat
 n:Nat
 g:Nat
 S:List Sn
def En.one (E:En) (i:Nat):Sn:=E.S.getD i Sn.none
def En.set (E:En) (i:Nat) (x:Sn):En:={E with S:=E.S.set i x}
def En.pa (E:En) (i:Nat):So.Pa:=⟨E.a,E.n,E.g,(E.one i).st,(E.one i).ln,Em.room E.g (E.one i).ln,(E.one i).gen⟩
variable{E:En}{i:Nat}
theorem En.one_set (hi:i<E.S.length) (x:Sn) (j:Nat):(E.set i x).one j= if i= j then x else E.one j:=by
 unfold En.one En.set;rw [FU,List.getElem?_set];split;· rename_i h;subst h;simp
 ·rw [<-FU]
theorem En.mv (E:En) (i:Nat) (x:Sn):(E.set i x).S.length= E.S.length:=TB ..
structure Eb where
 q:Nat
 d:ae.Ob
 oq:Nat
 sq:Nat->Nat
 sT:Nat->Tb.Ob
 ptr:Nat->Value
def Eb.bk (B:Eb) (i:Nat):So.Bk:=⟨B.sq i,B.d,B.sT i⟩
def pY (B:Eb) (E:En) (j:Nat):Value:= if j= 0 then zI E.a else if j= 1 then zI E.n else if j= 2 then zI E.g else if j= 3 then (zP B.d.p) else (zP B.oq)
def dS (x:Sn) (r:Nat):Value:=if r= 0 then zI x.t else if r= 1 then zI x.st else if r= 2 then zI x.ln else zU x.gen
def cG (E:En) (j:Nat):Value:=dS (E.one (j / 4)) (j % 4)
def cellAt (B:Eb) (E:En) (j:Nat):Value:=if j<5 then pY B E j else if j<69 then cG E (j - 5) else B.ptr (j - 69)
def bh (n:Nat) (f:Nat->Value):List Value:=(List.range n).map f
theorem jb (n:Nat) (f:Nat->Value) (j:Nat):(bh n f)[j]?= if j<n then some (f j) else none:=by
 unfold bh;rw [List.getElem?_map];split;· rename_i h;rw [List.getElem?_range h];rfl
 ·rename_i h;rw [List.getElem?_eq_none (by rw [Tw];omega)];rfl
theorem pZ (n:Nat) (f:Nat->Value):(bh n f).length= n:=by unfold bh;rw [PN,Tw]
theorem p_ (n:Nat) (f:Nat->Value) (o:Nat) (v:Value):(bh n f).toArray.setIfInBounds o v= (bh n (λj=>if j= o then v else f j)).toArray:=by
 apply WL;intro j;rw [Array.getElem?_setIfInBounds,Ud,Ud,jb,jb,Uh,pZ];by_cases h:o= j;· subst h;simp
 ·rw [if_neg h];split;· rw [if_neg (λe=>h e.symm)]
  ·rfl
variable{n:Nat}
theorem nQ {f g:Nat->Value} (h:∀j,j<n->f j= g j):bh n f= bh n g:=Ua λj hj=>h j (RP.1 hj)
theorem Gc (n:Nat) (f:Nat->Value) (o k:Nat) (h:o+k<=n):(bh n f).toArray.extract o (o+k)= (bh k λj=>f (o+j)).toArray:=by
 apply WL;intro j;rw [Array.getElem?_extract,Ud,Ud,jb,jb,Uh,pZ];by_cases a:j<k;· rw [if_pos (by omega),if_pos (by omega),if_pos a]
 ·rw [if_neg (by omega),if_neg a]
theorem nR (f:Nat->Value):bh 4 f= [f 0,f 1,f 2,f 3]:=rfl
def Hd (w:World) (B:Eb) (E:En):Prop:=w.heap[B.q]?= some (hV (bh 85 (cellAt B E)).toArray 93 (0,0))
variable{w:World}{B:Eb}
theorem Hd.cell (h:Hd w B E) {j:Nat} (a:j<85):w.cell? (zD B.q j)= some (cellAt B E j):=by rw [cell_of_row _ _ _ _ _ _ h,Ud,jb,if_pos a]
theorem Hd.ig (h:Hd w B E) (j:Nat):w.frozen? (zD B.q j)= false:=frozen_of_row _ _ _ _ _ h
theorem Hd.low (h:Hd w B E):w.cell? (zD B.q 0)= some (zI E.a)/\w.cell? (zD B.q 1)= some (zI E.n)/\w.cell? (zD B.q 2)= some (zI E.g)/\ w.cell? (zD B.q 3)= some (zP B.d.p)/\w.cell? (zD B.q 4)= some (zP B.oq):= ⟨h.cell (by decide),h.cell (by decide),h.cell (by decide),h.cell (by decide),h.cell (by decide)⟩
theorem s_ (B:Eb) (E:En) {i r:Nat} (hi:i<16) (a:r<4):cellAt B E (5+i*4+r)= dS (E.one i) r:=by unfold cellAt cG;rw [if_neg (by omega),if_pos (by omega),show (5+i*4+r - 5) / 4= i by omega,show (5+i*4+r - 5) % 4= r by omega]
theorem Hd.slot (h:Hd w B E) {i:Nat} (hi:i<16):w.cell? ⟨B.q,5+i*4,none⟩= some (zI ((E.one i).t:Int))/\w.cell? ⟨B.q,5+i*4+1,none⟩= some (zI ((E.one i).st:Int))/\ w.cell? ⟨B.q,5+i*4+2,none⟩= some (zI ((E.one i).ln:Int))/\w.cell? ⟨B.q,5+i*4+3,none⟩= some (zU ((E.one i).gen:Int)):=by
 have k:∀r,r<4->w.cell? ⟨B.q,5+i*4+r,none⟩= some (dS (E.one i) r):=λr hr=>by rw [h.cell (by omega),s_ B E hi hr]
 exact ⟨k 0 (by decide),k 1 (by decide),k 2 (by decide),k 3 (by decide)⟩
theorem xF (B:Eb) (E:En) (i:Nat):cellAt B E (69+i)= B.ptr i:=by unfold cellAt;rw [if_neg (by omega),if_neg (by omega),show 69+i - 69= i by omega]
theorem Hd.ptr (h:Hd w B E) {i:Nat} (hi:i<16):w.cell? ⟨B.q,69+i,none⟩= some (B.ptr i):=by rw [h.cell (by omega),xF]
theorem Hd.lj (h:Hd w B E):w.rangeAt B.q 5 (bh 64 (cG E)):=λj v hv=>by
 rw [jb]at hv;split at hv;· rename_i a;injection hv with hv;subst hv;rw [h.cell (by omega)];unfold cellAt;rw [if_neg (by omega),if_pos (by omega),show 5+j - 5= j by omega]
 ·cases hv
theorem Hd.Gd (h:Hd w B E):w.rangeAt B.q 69 (bh 16 B.ptr):=λj v hv=>by
 rw [jb]at hv;split at hv;· rename_i a;injection hv with hv;subst hv;rw [h.cell (by omega),xF]
 ·cases hv
theorem Hd.setAt (h:Hd w B E) (o:Nat) (v:Value):(w.setCell ⟨B.q,o,none⟩ v).heap[B.q]?= some (hV (bh 85 (λj=>if j= o then v else cellAt B E j)).toArray 93 (0,0)):=by rw [heap_setCell_same _ _ _ _ _ _ h,p_]
theorem Hd.ll (h:Hd w B E) {i:Nat} (hi:i<16) (d:E.S.length= 16) (x:Sn):Hd (w.setCells B.q (5+i*4) (bh 4 (dS x))) B (E.set i x):=by
 unfold Hd;rw [nR];simp only [World.setCells];rw [heap_setCell_same _ _ _ _ _ _ (heap_setCell_same _ _ _ _ _ _ (heap_setCell_same _ _ _ _ _ _ (h.setAt (5+i*4) (dS x 0)))),p_,p_,p_];congr 3;refine nQ λj hj=>?_;show (if j= 5+i*4+1+1+1 then dS x 3 else if j= 5+i*4+1+1 then dS x 2 else if j= 5+i*4+1 then dS x 1 else if j= 5+i*4 then dS x 0 else cellAt B E j)= cellAt B (E.set i x) j;by_cases b:j<5;· rw [if_neg (by omega),if_neg (by omega),if_neg (by omega),if_neg (by omega)];unfold cellAt;rw [if_pos b,if_pos b];rfl
 ·by_cases a:j<69;·
   obtain ⟨k,r,c,rfl⟩:∃k r,r<4/\j= 5+k*4+r:=⟨(j - 5) / 4,(j - 5) % 4,by omega,by omega⟩;rw [s_ B E (by omega) c,s_ B (E.set i x) (by omega) c,En.one_set (by omega)];by_cases e:i= k;·
    subst e;rw [if_pos rfl];rcases (show r= 0\/r= 1\/r= 2\/r= 3 by omega) with rfl|rfl|rfl|rfl;· rw [if_neg (by omega),if_neg (by omega),if_neg (by omega),if_pos (by omega)]
    ·rw [if_neg (by omega),if_neg (by omega),if_pos (by omega)]
    ·rw [if_neg (by omega),if_pos (by omega)]
    ·rw [if_pos (by omega)]
   ·rw [if_neg e,if_neg (by omega),if_neg (by omega),if_neg (by omega),if_neg (by omega)]
  ·rw [if_neg (by omega),if_neg (by omega),if_neg (by omega),if_neg (by omega)];unfold cellAt;rw [if_neg b,if_neg a,if_neg b,if_neg a]
def Eb.mw (B:Eb) (i:Nat) (v:Value):Eb:={B with ptr:=λj=>if j= i then v else B.ptr j}
theorem Hd.mw (h:Hd w B E) {i:Nat} (hi:i<16) (v:Value):Hd (w.setCell ⟨B.q,69+i,none⟩ v) (B.mw i v) E:=by
 unfold Hd;refine (h.setAt (69+i) v).trans ?_;congr 3;refine nQ λj hj=>?_;unfold cellAt;by_cases b:j<5;· rw [if_neg (by omega),if_pos b,if_pos b];rfl
 ·by_cases a:j<69;· rw [if_neg (by omega),if_neg b,if_pos a,if_neg b,if_pos a]
  ·rw [if_neg b,if_neg a,if_neg b,if_neg a];show _= if j - 69= i then v else B.ptr (j - 69);by_cases e:j= 69+i;· rw [if_pos e,if_pos (by omega)]
   ·rw [if_neg e,if_neg (by omega)]
structure Ek (w:World) (B:Eb) (E:En) (st:Dm.St):Prop where
 head:Hd w B E
 len:E.S.length= 16
 aF:Og.Gk w ⟨B.oq,B.d⟩ E.n E.g st
 ptr:∀i,i<16->B.ptr i= if (E.one i).t= 0 then xb none else xb (some ⟨B.sq i,0,none⟩)
 sk:∀i,i<16->(E.one i).t≠0->So.Sk w (B.bk i) (E.pa i) (E.one i).M.inv st (E.one i).M.aK
 ap:∀i j,i<16->j<16->i≠j->(E.one i).t≠0->(E.one j).t≠0->So.Aside (B.bk i) (B.bk j)
 qo:B.q≠B.oq
 qd:¬B.d.fp B.q
 qs:∀i,i<16->(E.one i).t≠0->B.sq i≠B.q/\¬(B.sT i).fp B.q/\B.sq i≠B.oq/\¬(B.sT i).fp B.oq
def Eb.fp (B:Eb) (E:En) (k:Nat):Prop:=k= B.q\/k= B.oq\/B.d.fp k\/∃i,i<16/\(E.one i).t≠0/\(B.bk i).fp k
variable{st:Dm.St}
theorem Ek.dk (h:Ek w B E st):ae.Dk w B.d st:=h.aF.dk
theorem Ek.lt (h:Ek w B E st) (k:Nat) (hk:B.fp E k):k<w.heap.size:=by
 rcases hk with rfl|rfl|hk|⟨i,hi,a,hk⟩;· exact ae.lt_of_heap h.head
 ·exact ae.lt_of_heap h.aF.head
 ·exact h.dk.lt k hk
 ·exact (h.sk i hi a).lt k hk
variable{w':World}
theorem Ek.same (h:Ek w B E st) (hb:∀k,B.fp E k->w'.heap[k]?= w.heap[k]?):Ek w' B E st:= ⟨(hb _ (.inl rfl)).trans h.head,h.len,h.aF.same λk hk=>hb k (hk.elim (λe=> .inr (.inl e)) λhk=> .inr (.inr (.inl hk))),h.ptr,λi hi h0=>(h.sk i hi h0).same λk hk=>hb k (.inr (.inr (.inr ⟨i,hi,h0,hk⟩))),h.ap,h.qo,h.qd,h.qs⟩
theorem Ek.below (h:Ek w B E st) (hb:zB w w'):Ek w' B E st:=h.same λk hk=>hb.block k (h.lt k hk)
theorem Ek.keep {F:Nat->Prop} (h:Ek w B E st) (hf:ae.Fr F w w') (hd:∀k,B.fp E k->¬F k):Ek w' B E st:=h.same λk hk=>hf.block k (h.lt k hk) (hd k hk)
structure br (B:Eb) (E:En) (B':Eb) (E':En) (w w':World):Prop where
 fr:ae.Fr (B.fp E) w w'
 fp:∀k,B'.fp E' k->B.fp E k\/w.heap.size<=k
 q:B'.q= B.q
 dp:B'.d.p= B.d.p
 df:∀k,B'.d.fp k->B.d.fp k\/w.heap.size<=k
theorem br.ax (h:zB w w'):br B E B E w w':=⟨ae.Fr.ax h,λ_ h=> .inl h,rfl,rfl,λ_ h=> .inl h⟩
theorem br.refl (B:Eb) (E:En) (w:World):br B E B E w w:=br.ax zR
theorem br.trans {A C:Eb} {E1 E2:En} {u v:World} (h:br A E B E1 u v) (k:br B E1 C E2 v w):br A E C E2 u w:=by
 refine ⟨h.fr.trans k.fr λi hi hb=>?_,λi hi=>?_,k.q.trans h.q,k.dp.trans h.dp,λi hi=>?_⟩;·
  rcases h.fp i hb with h1|h1;· exact h1
  ·omega
 ·rcases k.fp i hi with h1|h1;· exact h.fp i h1
  ·exact .inr (A6 h.fr.size h1)
 ·rcases k.df i hi with h1|h1;· exact h.df i h1
  ·exact .inr (A6 h.fr.size h1)
def ai (B:Eb) (E E':En) (st:Dm.St) (w w':World):Prop:=∃B',Ek w' B' E' st/\br B E B' E' w w'
theorem ai.ax (h:Ek w B E st) (hb:zB w w'):ai B E E st w w':=⟨B,h.below hb,br.ax hb⟩
variable{E':En}
theorem ai.below {w1 w2:World} (a:zB w w1) (h:ai B E E' st w1 w2):ai B E E' st w w2:=by obtain ⟨c,h1,b⟩:=h;exact ⟨c,h1,(br.ax a).trans b⟩
theorem mx (E:En) (k:Nat) (hk:k<16) (w:World):(VW 89 (.agg (bh 64 (cG E)).toArray) (zI k)).run prog w= .ok (.agg #[zI ((E.one k).t:Int),zI ((E.one k).st:Int),zI ((E.one k).ln:Int),zU ((E.one k).gen:Int)]) w:=by
 have a:(sizeOf 68).run prog w= .ok 4 w:=by kernel_rfl
 have b:List.take 4 (List.drop (k*4) (bh 64 (cG E)))= [zI ((E.one k).t:Int),zI ((E.one k).st:Int),zI ((E.one k).ln:Int),zU ((E.one k).gen:Int)]:=by
  have h1:=Gc 64 (cG E) (k*4) 4 (by omega);rw [nR]at h1;have c:List.take 4 (List.drop (k*4) (bh 64 (cG E)))= [cG E (k*4+0),cG E (k*4+1),cG E (k*4+2),cG E (k*4+3)]:=by have:=congrArg Array.toList h1;simpa using this
  rw [c];have e:∀r,r<4->cG E (k*4+r)= dS (E.one k) r:=λr hr=>by unfold cG;rw [show (k*4+r) / 4= k by omega,show (k*4+r) % 4= r by omega]
  rw [e 0 (by decide),e 1 (by decide),e 2 (by decide),e 3 (by decide)];rfl
 simp [VW,run_underlying underlying89,asIntOf,hk,part,a,b,go_sem]
theorem Ge:(prog.info? 89).map (·.size)= some 64:=by kernel_rfl
theorem my (E:En):(prog.info? 89).map (·.size)= some (bh 64 (cG E)).length:=by rw [pZ];exact Ge
def En.has (E:En) (id:Int):Bool:=decide (1<=id) && decide (id<=16) && decide ((E.one (id - 1).toNat).t≠0)
theorem Gg (h:Hd w B E) (id:Int) (k:Nat) (hid:id= (k:Int) +1) (hk:k<16): zF 65 #[zP B.q,zI id] w λr w'=>r= nf (.bool (E.has id))/\w= w':=by
 obtain ⟨c0, -, -, -⟩:=h.slot hk;have d1:decide (1<=id):=by simp;omega
 have d2:decide (id<=16):=by simp;omega
 have hw:lg.wrap (id - 1)= (k:Int):=by rw [rr _ (by omega)];omega
 have a:Hid (E.has id= (((E.one k).t:Int) != 0)):=hT (by unfold En.has;rw [show (id - 1).toNat= k by omega,decide_eq_true (show 1<=id by omega),decide_eq_true (show id<=16 by omega)];by_cases c:(E.one k).t= 0<;>simp [c]);generalize (E.one k).t= s at c0 a;generalize E.has id= T at a;clear h hid;go_enter func65,ntmps65;go_wp2_with fail;go_ret;exact ⟨by rw [a.out];rfl,rfl⟩
theorem Gi (id:Int) (hid:id<1): zF 65 #[zP B.q,zI id] w λr w'=>r= nf (.bool (E.has id))/\w= w':=by
 have d1:decide (1<=id)= false:=by simp;omega
 have a:Hid (E.has id= false):=hT (by unfold En.has;rw [decide_eq_false (show¬1<=id by omega)];rfl);generalize E.has id= T at a;clear hid;go_enter func65,ntmps65;go_wp2_with fail;go_ret;exact ⟨by rw [a.out];rfl,rfl⟩
theorem Gj (id:Int) (hid:16<id): zF 65 #[zP B.q,zI id] w λr w'=>r= nf (.bool (E.has id))/\w= w':=by
 have d1:decide (1<=id):=by simp;omega
 have d2:decide (id<=16)= false:=by simp;omega
 have a:Hid (E.has id= false):=hT (by unfold En.has;rw [decide_eq_false (show¬id<=16 by omega),Bool.and_false];rfl);generalize E.has id= T at a;clear hid;go_enter func65,ntmps65;go_wp2_with fail;go_ret;exact ⟨by rw [a.out];rfl,rfl⟩
theorem mz (h:Hd w B E) (id:Int): zF 65 #[zP B.q,zI id] w λr w'=>r= nf (.bool (E.has id))/\w= w':=by
 by_cases h1:id<1;· exact Gi id h1
 ·by_cases a:16<id;· exact Gj id a
  ·exact Gg h id (id - 1).toNat (by omega) (by omega)
variable{id:Int}
theorem cO :E.has id= true↔∃k:Nat,k<16/\id= (k:Int) +1/\(E.one k).t≠0:=by
 unfold En.has;rw [N6,N6,decide_eq_true_eq,decide_eq_true_eq,decide_eq_true_eq];constructor;· rintro ⟨⟨h1,b⟩,a⟩;exact ⟨(id - 1).toNat,by omega,by omega,a⟩
 ·rintro ⟨k,hk,rfl,a⟩;exact ⟨⟨by omega,by omega⟩,by rw [show ((k:Int) +1 - 1).toNat= k by omega];exact a⟩
def bZ (E:En) (x:Nat):Nat->Nat
 | 0=>0
 | k+1=>if bZ E x k≠0 then bZ E x k else if (E.one k).t= x then k+1 else 0
def En.al (E:En):Nat:=bZ E 2 16
def En.firstFree (E:En):Nat:=bZ E 0 16
variable{x k:Nat}
theorem xG (a:bZ E x k= 0) (h:(E.one k).t≠x):bZ E x (k+1)= 0:=by unfold bZ;rw [if_neg (by omega),if_neg h]
theorem xH (a:bZ E x k= 0) (h:(E.one k).t= x) (n:Nat):bZ E x (k+1+n)= k+1:=by induction n with
 | zero=>show bZ E x (k+1)= _;unfold bZ;rw [if_neg (by omega),if_pos h]
 | succ n ih => show bZ E x (k+1+n+1)= _;unfold bZ;rw [if_pos (by omega)];exact ih
theorem nS :∀{k:Nat},bZ E x k= 0→∀i,i<k→(E.one i).t≠x
  | 0,_,i,hi=>by omega
  | k + 1, h, i, hi => by
    unfold bZ at h
    split at h
    · rename_i c;omega
    · rename_i c
      split at h
      · omega
      · rename_i c2
        by_cases e:i= k
        · subst e;exact c2
        · exact nS (k:=k) (by omega) i (by omega)
theorem lp :∀{k:Nat},bZ E x k≠0→∃i,i<k∧bZ E x k= i+1∧(E.one i).t= x∧∀j,j<i→(E.one j).t≠x
  | 0,h=>absurd rfl h
  | k + 1, h => by
    unfold bZ at h⊢
    by_cases c:bZ E x k≠0
    · rw [if_pos c]
      obtain ⟨i,h1,d,b,a⟩:=lp c
      exact ⟨i,by omega,d,b,a⟩
    · rw [if_neg c]at h⊢
      split at h
      · rename_i c2
        rw [if_pos c2]
        exact ⟨k,by omega,rfl,c2,nS (by omega)⟩
      · exact absurd rfl h
theorem jB (h:Hd w B E): zF 32 #[zP B.q] w λr w'=>r= nf (zI E.al)/\zB w w':=by
 have n:=hT h.lj;have f:=hT (λk (hk:k<16)=>mx E k hk);have o:Hid (∀k,bZ E 2 k= 0->k<16->(E.one k).t= 2->E.al= k+1):=hT λk h0 hk c=>by have:=xH h0 c (15 - k);rw [show k+1+ (15 - k)= 16 by omega]at this;exact this
 clear h;go_enter func32,ntmps32;go_wp2_with (refine wpList_load_mid rfl 89 _ rfl B.q 5 rfl (bh 64 (cG E)) _ n.out underlying89 rfl (my E) ?_);generalize hAV:Value.agg (bh 64 (cG E)).toArray= AV;rw [hAV]at f;clear hAV;go_loopw [11] (λi wr=>∃k:Nat,i= zI k/\k<=16/\Hid (zB w wr)/\Hid (bZ E 2 k= 0)) (λi _=>16 - (wo i).toNat);case atStart=>exact ⟨0,rfl,yb _,hT zR,hT rfl⟩
 case round=>
  obtain ⟨k,rfl,hk,hw,hm⟩:=hrel;by_cases d:k<16;·
   have d1:decide ((k:Int) <16):=by simp;omega
   have l:lg.wrap ((k:Int) +1)= ((k+1:Nat):Int):=by rw [rr _ (by omega)];rfl
   have a:=f.out k d;have g:=hT (o.out k hm.out d);have j:=hT (xG (x:=2) (k:=k) hm.out);generalize (E.one k).t= s at a g j;generalize ((E.one k).st:Int)= x1 at a;generalize ((E.one k).ln:Int)= x2 at a;generalize ((E.one k).gen:Int)= x3 at a;by_cases c:s= 2;·
    have d2:((s:Int) == 2):=by simp;omega
    have b:=hT (g.out c);clear c;go_wp2_with fail;go_ret;exact ⟨by rw [b.out];rfl,hw.out.alloc hw.out.size _⟩
   ·have d2:((s:Int) == 2)= false:=by simp;omega
    have m:=hT (j.out c);clear c;go_wp2_with fail;go_roundw;case rel=>exact ⟨k+1,by go_num,by omega,hT (hw.out.alloc hw.out.size _),m⟩
    case measure=>simp [wo];omega
  ·have d1:decide ((k:Int) <16)= false:=by simp;omega
   have b:Hid (E.al= 0):=hT (by
    have e:k= 16:=by omega
    have:=hm.out;rw [e]at this;exact this);go_wp2_with fail;go_ret;exact ⟨by rw [b.out];rfl,hw.out⟩
theorem qa (h:Hd w B E): zF 46 #[zP B.q] w λr w'=>r= nf (zI E.firstFree)/\zB w w':=by
 have n:=hT h.lj;have f:=hT (λk (hk:k<16)=>mx E k hk);have o:Hid (∀k,bZ E 0 k= 0->k<16->(E.one k).t= 0->E.firstFree= k+1):=hT λk h0 hk c=>by have:=xH h0 c (15 - k);rw [show k+1+ (15 - k)= 16 by omega]at this;exact this
 clear h;go_enter func46,ntmps46;go_wp2_with (refine wpList_load_mid rfl 89 _ rfl B.q 5 rfl (bh 64 (cG E)) _ n.out underlying89 rfl (my E) ?_);generalize hAV:Value.agg (bh 64 (cG E)).toArray= AV;rw [hAV]at f;clear hAV;go_loopw [9] (λi wr=>∃k:Nat,i= zI k/\k<=16/\Hid (zB w wr)/\Hid (bZ E 0 k= 0)) (λi _=>16 - (wo i).toNat);case atStart=>exact ⟨0,rfl,yb _,hT zR,hT rfl⟩
 case round=>
  obtain ⟨k,rfl,hk,hw,hm⟩:=hrel;by_cases d:k<16;·
   have d1:decide ((k:Int) <16):=by simp;omega
   have l:lg.wrap ((k:Int) +1)= ((k+1:Nat):Int):=by rw [rr _ (by omega)];rfl
   have a:=f.out k d;have g:=hT (o.out k hm.out d);have j:=hT (xG (x:=0) (k:=k) hm.out);generalize (E.one k).t= s at a g j;generalize ((E.one k).st:Int)= x1 at a;generalize ((E.one k).ln:Int)= x2 at a;generalize ((E.one k).gen:Int)= x3 at a;by_cases c:s= 0;·
    have d2:((s:Int) == 0):=by simp;omega
    have b:=hT (g.out c);clear c;go_wp2_with fail;go_ret;exact ⟨by rw [b.out];rfl,hw.out.alloc hw.out.size _⟩
   ·have d2:((s:Int) == 0)= false:=by simp;omega
    have m:=hT (j.out c);clear c;go_wp2_with fail;go_roundw;case rel=>exact ⟨k+1,by go_num,by omega,hT (hw.out.alloc hw.out.size _),m⟩
    case measure=>simp [wo];omega
  ·have d1:decide ((k:Int) <16)= false:=by simp;omega
   have b:Hid (E.firstFree= 0):=hT (by
    have e:k= 16:=by omega
    have:=hm.out;rw [e]at this;exact this);go_wp2_with fail;go_ret;exact ⟨by rw [b.out];rfl,hw.out⟩
def Sn.dV (x:Sn) (c:Nat):Bool:=decide (x.t= 1) && !x.M.inv && (Tb.find x.M.T (c:Int)).isNone
def Sn.saved (p:So.Pa) (x:Sn) (c:Nat) (d:zL):Sn:=if x.dV c= true then (if So.free x.M.T= 0 then {x with M:=x.M.eh} else {x with M:=x.M.du [((c:Int),d)]}) else x
def fk (p:So.Pa) (x:Sn) (c:Nat) (d:zL):List So.Op:= if x.dV c= true then (if So.free x.M.T= 0 then So.bY p else So.aV p x.M.T [((c:Int),d)] (So.aI (So.ak x.M.T [((c:Int),d)]))) else []
def aq (E:En) (c:Nat) (d:zL):Nat->List So.Op
 | 0=> []
 | k+1=>aq E c d k ++ fk (E.pa k) (E.one k) c d
def En.aJ (E:En) (c:Nat) (d:zL):Nat->En
 | 0=>E
 | k+1=>(E.aJ c d k).set k ((E.one k).saved (E.pa k) c d)
theorem qw (E:En) (c:Nat) (d:zL) (k:Nat):(E.aJ c d k).S.length= E.S.length:=by induction k with
 | zero=>rfl
 | succ k ih=>show ((E.aJ c d k).set k _).S.length= _;rw [En.mv,ih]
variable{c:Nat}{d:zL}
theorem mJ (hk:k<=E.S.length) (j:Nat):(E.aJ c d k).one j= if j<k then (E.one j).saved (E.pa j) c d else E.one j:=by induction k with
 | zero=>rw [if_neg (by omega)];rfl
 | succ k ih =>
 show ((E.aJ c d k).set k _).one j= _;rw [En.one_set (by rw [qw];omega),ih (by omega)];by_cases e:k= j;· subst e;rw [if_pos rfl,if_pos (by omega)]
 ·rw [if_neg e];by_cases a:j<k;· rw [if_pos a,if_pos (by omega)]
  ·rw [if_neg a,if_neg (by omega)]
theorem gd (E:En) (c:Nat) (d:zL) (k:Nat):(E.aJ c d k).a= E.a/\(E.aJ c d k).n= E.n/\(E.aJ c d k).g= E.g:=by induction k with
 | zero=>exact ⟨rfl,rfl,rfl⟩
 | succ k ih=>exact ih
theorem yM (p:So.Pa) (x:Sn) (c:Nat) (d:zL):(x.saved p c d).t= x.t/\(x.saved p c d).st= x.st/\(x.saved p c d).ln= x.ln/\(x.saved p c d).gen= x.gen:=by
 unfold Sn.saved;split;· split<;>exact ⟨rfl,rfl,rfl,rfl⟩
 ·exact ⟨rfl,rfl,rfl,rfl⟩
theorem tU (p:So.Pa) (x:Sn) (c:Nat) (d:zL):x.saved p c d= {x with M:=(x.saved p c d).M}:=by
 unfold Sn.saved;split;· split<;>rfl
 ·rfl
theorem tV (hk:k<=E.S.length) (j:Nat):(E.aJ c d k).pa j= E.pa j:=by
 unfold En.pa;obtain ⟨a,b,g⟩:=gd E c d k;rw [mJ hk,a,b,g];split;· obtain ⟨h1,h,f,e⟩:=yM (E.pa j) (E.one j) c d;rw [h,f,e]
 ·rfl
open Go.RowKit
theorem En.yR (hi:i<E.S.length) (M:So.Ms) (j:Nat):(E.set i {E.one i with M:=M}).pa j= E.pa j:=by
 unfold En.pa;rw [En.one_set hi];split;· rename_i e;subst e;rfl
 ·rfl
theorem En.oo (hi:i<E.S.length) (M:So.Ms) (j:Nat):((E.set i {E.one i with M:=M}).one j).t= (E.one j).t:=by
 rw [En.one_set hi];split;· rename_i e;subst e;rfl
 ·rfl
theorem Ju (hi:i<E.S.length) (M:So.Ms) (j:Nat):cellAt B (E.set i {E.one i with M:=M}) j= cellAt B E j:=by
 unfold cellAt;split;· rfl
 ·split;·
   unfold cG;rw [En.one_set hi];split;· rename_i e;rw [<-e];rfl
   ·rfl
  ·rfl
variable{st':Dm.St}
theorem Ek.iH (h:Ek w B E st) {d':ae.Ob} (hd:ae.Dk w' d' st') (a:ae.Step B.d d' w w') (g:st'.S.length= st.S.length): Ek w' {B with d:=d'} E st'/\br B E {B with d:=d'} E w w':=by
 have e:=h.lt B.q (.inl rfl);have new:∀k,d'.fp k->k<w.heap.size->B.d.fp k:=λk hk hlt=>(a.fp k hk).elim id λc=>by omega
 obtain ⟨f,_⟩:=h.aF.iH hd a g;refine ⟨⟨?_,h.len,f,h.ptr,λi hi b=>((h.sk i hi b).iH hd a).1,λi j hi hj hij h1 h2=>?_,h.qo,λhk=>h.qd (new _ hk e),h.qs⟩,⟨a.fr.mono λk _ hk=> .inr (.inr (.inl hk)),λk hk=>?_,rfl,a.p,a.fp⟩⟩;· unfold Hd;show w'.heap[B.q]?= _;rw [a.fr.block B.q e h.qd,h.head];congr 3;refine nQ λj _=>?_;unfold cellAt pY;rw [show ({B with d:=d'}:Eb).d.p= B.d.p from a.p]
 ·have:=h.ap i j hi hj hij h1 h2;exact ⟨rfl,this.q,this.qt,this.tq,this.t⟩
 ·rcases hk with rfl|rfl|hk|⟨i,hi,b,hk⟩;· exact .inl (.inl rfl)
  ·exact .inl (.inr (.inl rfl))
  ·exact (a.fp k hk).imp (λh=> .inr (.inr (.inl h))) id
  ·rcases hk with rfl|hk|hk;· exact .inl (.inr (.inr (.inr ⟨i,hi,b, .inl rfl⟩)))
   ·exact (a.fp k hk).imp (λh=> .inr (.inr (.inl h))) id
   ·exact .inl (.inr (.inr (.inr ⟨i,hi,b, .inr (.inr hk)⟩)))
theorem Ek.cP (h:Ek w B E st) (hd:ae.ai B.d st' w w') (b:st'.S.length= st.S.length):ai B E E st' w w':=by obtain ⟨e,hk,a⟩:=hd;obtain ⟨h1,c⟩:=h.iH hk a b;exact ⟨_,h1,c⟩
theorem Ek.yS (h:Ek w B E st) {i:Nat} (hi:i<16) (o:(E.one i).t≠0) {b':So.Bk} {M:So.Ms} (hk:So.Sk w' b' (E.pa i) M.inv st' M.aK) (f:So.Sp (B.bk i) b' w w') (O:st'.S.length= st.S.length): ∃B',Ek w' B' (E.set i {E.one i with M:=M}) st'/\br B E B' (E.set i {E.one i with M:=M}) w w'/\B'.ptr= B.ptr:=by
 have a:i<E.S.length:=by rw [h.len];exact hi
 have y:=h.lt B.q (.inl rfl);have z:=h.lt B.oq (.inr (.inl rfl));obtain ⟨I,H,G,F⟩:=h.qs i hi o;have u:¬(B.bk i).fp B.q:=λb=>by
  rcases b with e|b|b;· exact I e.symm
  ·exact h.qd b
  ·exact H b
 have v:¬(B.bk i).fp B.oq:=λb=>by
  rcases b with e|b|b;· exact G e.symm
  ·exact h.aF.qd b
  ·exact F b
 have s:∀k,b'.d.fp k->k<w.heap.size->B.d.fp k:=λk hk hlt=>(f.df k hk).elim id λc=>by omega
 have l:∀k,b'.fp k->k<w.heap.size->(B.bk i).fp k:=λk hk hlt=>(f.fp k hk).elim id λc=>by omega
 have A:b'.q= B.sq i:=f.q;have m:b'.d.p= B.d.p:=f.dp;refine ⟨{B with d:=b'.d,sT:=λj=>if j= i then b'.t else B.sT j},?_,?_,rfl⟩;·
  have n:∀j,({B with d:=b'.d,sT:=λj=>if j= i then b'.t else B.sT j}:Eb).bk j= if j= i then b' else {B.bk j with d:=b'.d}:=λj=>by
   unfold Eb.bk;by_cases e:j= i;· subst e;rw [if_pos rfl];show So.Bk.mk (B.sq j) b'.d (if j= j then b'.t else B.sT j)= b';rw [if_pos rfl,<-A]
   ·rw [if_neg e];show So.Bk.mk (B.sq j) b'.d (if j= i then b'.t else B.sT j)= _;rw [if_neg e]
  refine ⟨?_,by rw [En.mv,h.len],?_,λj g=>?_,λj g h1=>?_,λj k g hk2 hjk h1 h2=>?_,h.qo,λb=>h.qd (s _ b y),λj g h1=>?_⟩;· unfold Hd;show w'.heap[B.q]?= _;rw [f.fr.block B.q y u,h.head];congr 3;refine nQ λj _=>?_;rw [Ju a];unfold cellAt pY;rw [show ({B with d:=b'.d,sT:=λj=>if j= i then b'.t else B.sT j}:Eb).d.p= B.d.p from m]
  ·exact h.aF.lh f.fr v hk.dk m f.df O
  ·rw [En.oo a];exact h.ptr j g
  ·rw [En.oo a]at h1;rw [En.yR a,n,En.one_set a];by_cases e:j= i;· subst e;rw [if_pos rfl,if_pos rfl];exact hk
   ·rw [if_neg e,if_neg (λc=>e c.symm)];exact ((h.sk i hi o).beside hk f (h.sk j g h1) (h.ap i j hi g (λc=>e c.symm) o h1)).1
  ·rw [En.oo a]at h1 h2;rw [n,n];have key:∀x,x<16->x≠i->(E.one x).t≠0->So.Aside b' {B.bk x with d:=b'.d}:=λx hx e hx0=>((h.sk i hi o).beside hk f (h.sk x hx hx0) (h.ap i x hi hx (λc=>e c.symm) o hx0)).2;by_cases r:j= i;· rw [if_pos r,if_neg (λc=>hjk (r.trans c.symm))];exact key k hk2 (λc=>hjk (r.trans c.symm)) h2
   ·by_cases D:k= i;· rw [if_neg r,if_pos D];exact (key j g r h1).symm
    ·rw [if_neg r,if_neg D];have:=h.ap j k g hk2 hjk h1 h2;exact ⟨rfl,this.q,this.qt,this.tq,this.t⟩
  ·rw [En.oo a]at h1;obtain ⟨N,L,K,J⟩:=h.qs j g h1;refine ⟨N,?_,K,?_⟩;·
    show¬(if j= i then b'.t else B.sT j).fp B.q;split;· exact λb=>u (l _ (.inr (.inr b)) y)
    ·exact L
   ·show¬(if j= i then b'.t else B.sT j).fp B.oq;split;· exact λb=>v (l _ (.inr (.inr b)) z)
    ·exact J
 ·have C:∀k,(B.bk i).fp k->B.fp E k:=λk hk=> .inr (.inr (.inr ⟨i,hi,o,hk⟩));refine ⟨f.fr.mono λk _ hk=>C k hk,λk hk=>?_,rfl,m,f.df⟩;rcases hk with rfl|rfl|hk|⟨j,g,h1,hk⟩;· exact .inl (.inl rfl)
  ·exact .inl (.inr (.inl rfl))
  ·exact (f.df k hk).imp (λh=> .inr (.inr (.inl h))) id
  ·rw [En.oo a]at h1;rcases hk with rfl|hk|hk;· exact .inl (.inr (.inr (.inr ⟨j,g,h1, .inl rfl⟩)))
   ·exact (f.df k hk).imp (λh=> .inr (.inr (.inl h))) id
   ·have hk:(if j= i then b'.t else B.sT j).fp k:=hk;split at hk;· exact (f.fp k (.inr (.inr hk))).imp (C k) id
    ·exact .inl (.inr (.inr (.inr ⟨j,g,h1, .inr (.inr hk)⟩)))
theorem Ek.store (h:Ek w B E st) {i:Nat} (hi:i<16) (d:(E.one i).t≠0) {b':So.Bk} {M:So.Ms} (hk:So.Sk w' b' (E.pa i) M.inv st' M.aK) (a:So.Sp (B.bk i) b' w w') (b:st'.S.length= st.S.length): ai B E (E.set i {E.one i with M:=M}) st' w w':=by obtain ⟨e,h1,c,_⟩:=h.yS hi d hk a b;exact ⟨e,h1,c⟩
def lx (E:En) (x:Nat):Prop:=(17<=x/\x<17+E.n)\/∃i,i<16/\(E.one i).t≠0/\(E.pa i).data 0<=x/\x< (E.pa i).st+ (E.pa i).ln
structure Form (E:En):Prop where
 aj:Um.aj (E.a:Int) (E.n:Int) (E.g:Int)= true
 len:E.S.length= 16
 slot:∀i,i<16->Tm.bp ((E.one i).t:Int) ((E.one i).st:Int) ((E.one i).ln:Int) (E.one i).gen= true
 gen:∀i,i<16->(E.one i).gen<4294967296
 pa:∀i,i<16->(E.one i).t≠0->(E.pa i).Ok
 fit:∀i,i<16->(E.one i).t≠0->So.Fit (E.pa i) (E.one i).M
 apart:∀i j,i<16->j<16->i≠j->(E.one i).t≠0->(E.one j).t≠0->(E.one i).st+ (E.one i).ln<=(E.one j).st\/(E.one j).st+ (E.one j).ln<=(E.one i).st
 two:∀i j,i<16->j<16->(E.one i).t= 2->(E.one j).t= 2->i= j
 val:∀i,i<16->(E.one i).t= 2->(E.one i).M.inv= false
structure qz (E:En) (f:Nat->List UInt8):Prop where
 sup:f 0= Um.ah (E.a:Int) (E.n:Int) (E.g:Int)
 slot:∀i,i<16->f (1+i)= Tm.ah ((E.one i).t:Int) ((E.one i).st:Int) ((E.one i).ln:Int) (E.one i).gen
 ed:∀i,i<16->(E.one i).t≠0->So.fg (E.pa i) f (E.one i).M
structure aD (E:En) (st:Dm.St):Prop where
 form:Form E
 ok:Dm.Ok st
 dK:st.S.length= E.a
 dE:So.gu st
 gW:qz E (Dm.one st)
 bQ:∀y∈st.P,lx E y.1
theorem Form.small (h:Form E):1<=E.n/\E.n<=1048576/\1<=E.g/\E.g<=128/\E.n+17<=E.a/\E.a<=1048576:=by have:=Um.cT h.aj;omega
theorem Form.t2 (h:Form E) {i:Nat} (hi:i<16):(E.one i).t<=2:=by have:=Tm.jK (h.slot i hi);omega
theorem Form.off (h:Form E) {i j:Nat} (hi:i<16) (c:j<16) (a:i≠j) (h1:(E.one i).t≠0) (d:(E.one j).t≠0) {x:Nat} (b:So.cW (E.pa i) x):¬So.cW (E.pa j) x:=λhy=>by have e:=h.apart i j hi c a h1 d;have a1:(E.one i).st<=x:=b.1;have a2:x< (E.one i).st+ (E.one i).ln:=b.2;have b1:(E.one j).st<=x:=hy.1;have b2:x< (E.one j).st+ (E.one j).ln:=hy.2;omega
theorem Form.low (h:Form E) {i:Nat} (hi:i<16) (c:(E.one i).t≠0) {x:Nat} (b:So.cW (E.pa i) x):17+E.n<=x/\x<E.a:=by have hp:=h.pa i hi c;have l:17+E.n<=(E.pa i).st:=hp.low;have u:(E.pa i).st+ (E.pa i).ln<=E.a:=hp.high;exact ⟨A6 l b.1,ti b.2 u⟩
variable{p:So.Pa}
theorem Jv (hp:p.Ok) {x:Nat} (h:p.data 0<=x) (a:x<p.st+p.ln):So.cW p x:=by unfold So.Pa.data at h;exact ⟨by omega,a⟩
theorem Jw (hp:p.Ok):p.data 0<=p.st+p.ln:=by have:=hp.ag.size;unfold So.Pa.data;omega
theorem Jy (hp:p.Ok) {i j:Nat} (hi:i<p.N) (a:j<p.g):p.data 0<=p.data i+j/\p.data i+j<p.st+p.ln:=by refine ⟨?_,So.Pa.xo hp hi a⟩;unfold So.Pa.data;omega
theorem aD.live (h:aD E st) {i:Nat} (hi:i<16) (b:(E.one i).t≠0):So.Live (E.pa i) st (E.one i).M:=by
 have hp:=h.form.pa i hi b;refine ⟨h.ok,h.dK,h.dE,h.form.fit i hi b,h.gW.ed i hi b,λy d=>?_⟩;rcases h.bQ y d with ⟨_,k⟩|⟨j,g,a,h1,k⟩;· have l:17+E.n<=(E.pa i).st:=hp.low;exact .inl (by omega)
 ·by_cases e:i= j;· subst e;exact .inr h1
  ·have m:=Jv (h.form.pa j g a) h1 k;have f:=h.form.off g hi (λc=>e c.symm) a b m;have o:=Jw hp;by_cases d:y.1< (E.pa i).st;· exact .inl d
   ·refine .inr ?_;have:¬y.1< (E.pa i).st+ (E.pa i).ln:=λc=>f ⟨by omega,c⟩;omega
def En.bL (E:En) (i:Nat) (M:So.Ms):En:=E.set i {E.one i with M:=M}
theorem ku (a:E.S.length= 16) {i:Nat} (hi:i<16) (M:So.Ms) (j:Nat):(E.bL i M).one j= if i= j then {E.one i with M:=M} else E.one j:=En.one_set (by omega) _ _
theorem lz (a:E.S.length= 16) {i:Nat} (hi:i<16) (M:So.Ms) (j:Nat):((E.bL i M).one j).t= (E.one j).t/\((E.bL i M).one j).st= (E.one j).st/\((E.bL i M).one j).ln= (E.one j).ln/\((E.bL i M).one j).gen= (E.one j).gen:=by
 rw [ku a hi];split;· rename_i e;subst e;exact ⟨rfl,rfl,rfl,rfl⟩
 ·exact ⟨rfl,rfl,rfl,rfl⟩
theorem t_ (a:E.S.length= 16) {i:Nat} (hi:i<16) (M:So.Ms) (j:Nat):(E.bL i M).pa j= E.pa j:=En.yR (by omega) M j
theorem lx.bL (a:E.S.length= 16) {i:Nat} (hi:i<16) (M:So.Ms) (x:Nat):lx (E.bL i M) x↔lx E x:=by unfold lx;refine or_congr Iff.rfl (exists_congr λj=>and_congr Iff.rfl ?_);rw [(lz a hi M j).1,t_ a hi]
theorem Form.bL (h:Form E) {i:Nat} (hi:i<16) {M:So.Ms} (l:(E.one i).t≠0->So.Fit (E.pa i) M) (g:(E.one i).t= 2->M.inv= false):Form (E.bL i M):=by
 have f:=λj=>lz h.len hi M j;have pa:=λj=>t_ h.len hi M j;refine ⟨h.aj,(En.mv _ _ _).trans h.len,λj hj=>?_,λj hj=>?_,λj hj h0=>?_,λj hj h0=>?_,λj k hj hk hjk h1 h2=>?_,λj k hj hk h1 h2=>?_,λj hj h1=>?_⟩;· obtain ⟨a,b,c,d⟩:=f j;rw [a,b,c,d];exact h.slot j hj
 ·rw [(f j).2.2.2];exact h.gen j hj
 ·rw [(f j).1]at h0;rw [pa j];exact h.pa j hj h0
 ·rw [(f j).1]at h0;rw [pa j,ku h.len hi];split;· rename_i e;subst e;exact l h0
  ·exact h.fit j hj h0
 ·obtain ⟨a,b,c,_⟩:=f j;obtain ⟨a2,b2,c2,_⟩:=f k;rw [a]at h1;rw [a2]at h2;rw [b,c,b2,c2];exact h.apart j k hj hk hjk h1 h2
 ·rw [(f j).1]at h1;rw [(f k).1]at h2;exact h.two j k hj hk h1 h2
 ·rw [(f j).1]at h1;rw [ku h.len hi];split;· rename_i e;subst e;exact g h1
  ·exact h.val j hj h1
theorem qz.bL (g:Form E) {f f':Nat->List UInt8} (h:qz E f) {i:Nat} (hi:i<16) (l:(E.one i).t≠0) {M:So.Ms} (m:So.fg (E.pa i) f' M) (k:∀x,¬So.cW (E.pa i) x->f' x= f x):qz (E.bL i M) f':=by
 have low:∀x,x<17->f' x= f x:=λx hx=>k x λc=>by have:=(g.low hi l c).1;omega
 refine ⟨by rw [low 0 (by omega)];exact h.sup,λj hj=>?_,λj hj hj0=>?_⟩;· obtain ⟨a,b,c,d⟩:=lz g.len hi M j;rw [low _ (by omega),a,b,c,d];exact h.slot j hj
 ·rw [(lz g.len hi M j).1]at hj0;rw [t_ g.len hi,ku g.len hi];split;· rename_i e;subst e;exact m
  ·rename_i e;exact (h.ed j hj hj0).lh (g.pa j hj hj0) (g.fit j hj hj0) λx hx=>k x (g.off hj hi (λc=>e c.symm) hj0 l hx)
theorem aD.turn (h:aD E st) {i:Nat} (hi:i<16) (f:(E.one i).t≠0) {M:So.Ms} {ops:List So.Op} (hd:(So.aa st ops).2= 0) (b:So.Live (E.pa i) (So.aa st ops).1 M) (e:(E.one i).t= 2->M.inv= false) (c:∀x d,So.Wr ops x d->So.cW (E.pa i) x) (hp:∀y∈(So.aa st ops).1.P,lx E y.1):aD (E.bL i M) (So.aa st ops).1/\∀x,¬So.cW (E.pa i) x->Dm.one (So.aa st ops).1 x= Dm.one st x:=by
 have a:=λx=>So.lW h.ok hd x;have off:∀x,¬So.cW (E.pa i) x->Dm.one (So.aa st ops).1 x= Dm.one st x:=λx hx=>by rw [a x];exact So.fR _ λd hw=>hx (c x d hw)
 refine ⟨⟨h.form.bL hi (λ_=>b.fit) e,b.ok,b.len,b.dE,h.gW.bL h.form hi f b.ed off,λy hy=>(lx.bL h.form.len hi M y.1).2 (hp y hy)⟩,off⟩
def raw (st:Dm.St) (j:Nat):zL:=Dm.one st (17+j)
theorem aD.ua (h:Form E) {st st':Dm.St} {i:Nat} (hi:i<16) (b:(E.one i).t≠0) (a:∀x,¬So.cW (E.pa i) x->Dm.one st' x= Dm.one st x) {j:Nat} (d:j<E.n):raw st' j= raw st j:= a _ λc=>by have:=(h.low hi b c).1;omega
theorem aD.add (h:aD E st) {i:Nat} (hi:i<16) (l:(E.one i).t≠0) (m:(E.one i).M.inv= false) {c:Nat} {d:zL} (s:c<=1048576) (p:Tb.find (E.one i).M.T (c:Int)= none) (hd:d.length= 64*E.g) (r:So.free (E.one i).M.T≠0): (So.aa st (So.aV (E.pa i) (E.one i).M.T [((c:Int),d)] (So.aI (So.ak (E.one i).M.T [((c:Int),d)])))).2= 0/\aD (E.bL i ((E.one i).M.du [((c:Int),d)])) (So.aa st (So.aV (E.pa i) (E.one i).M.T [((c:Int),d)] (So.aI (So.ak (E.one i).M.T [((c:Int),d)])))).1/\ (So.aa st (So.aV (E.pa i) (E.one i).M.T [((c:Int),d)] (So.aI (So.ak (E.one i).M.T [((c:Int),d)])))).1.P= []/\∀x,¬So.cW (E.pa i) x->Dm.one (So.aa st (So.aV (E.pa i) (E.one i).M.T [((c:Int),d)] (So.aI (So.ak (E.one i).M.T [((c:Int),d)])))).1 x= Dm.one st x:=by
 have k:=h.live hi l;have hp:=h.form.pa i hi l;have q:So.fh false (E.one i).M.T (E.pa i).g [((c:Int),d)]= 0:=by unfold So.fh;rw [if_neg (by decide),if_pos,if_pos (by show 1<=So.free (E.one i).M.T;omega)];unfold So.iE;rw [N6];refine ⟨?_,by simp⟩;rw [List.all_cons,List.all_nil,Vp];exact So.nM.2 ⟨⟨by omega,by show (c:Int)<=_;omega⟩,p,hd⟩
 obtain ⟨_,j,f⟩:=So.xr k.fit.tok q;obtain ⟨a,b,e⟩:=So.FO hp k j f m (So.yK _);obtain ⟨n,t2⟩:=h.turn hi l a b (λ_=>m) (λx d hw=>So.Gl hp k.fit j f (So.yK _) hw) (by rw [e];intro y o;cases o);exact ⟨a,n,e,t2⟩
theorem aD.eh (h:aD E st) {i:Nat} (hi:i<16) (l:(E.one i).t= 1): (So.aa st (So.bY (E.pa i))).2= 0/\aD (E.bL i (E.one i).M.eh) (So.aa st (So.bY (E.pa i))).1/\(So.aa st (So.bY (E.pa i))).1.P= []/\∀x,¬So.cW (E.pa i) x->Dm.one (So.aa st (So.bY (E.pa i))).1 x= Dm.one st x:=by
 have f:(E.one i).t≠0:=by omega
 have k:=h.live hi f;have hp:=h.form.pa i hi f;obtain ⟨a,b,e⟩:=So.FQ hp k;obtain ⟨g,t2⟩:=h.turn hi f a b (λc=>by omega) (λx d hw=>So.Gm hp hw) (by rw [e];intro y j;cases j);exact ⟨a,g,e,t2⟩
theorem aD.eJ (h:aD E st) {i:Nat} (hi:i<16) (e:(E.one i).t≠0) {q k:Nat} {c:Int} {d:zL} (m:(E.one i).M.T[q]?= some c) (w:0≤c) (hd:d.length % 64= 0) (hk:k+d.length / 64≤E.g):
    (So.aa st [So.cV (E.pa i) q k d]).2= 0∧aD (E.bL i ((E.one i).M.eJ q k d)) (So.aa st [So.cV (E.pa i) q k d]).1∧(So.aa st [So.cV (E.pa i) q k d]).1.P.length≤st.P.length+d.length / 64∧∀x,¬So.cW (E.pa i) x→Dm.one (So.aa st [So.cV (E.pa i) q k d]).1 x= Dm.one st x:=by
  have n:=h.live hi e
  have hp:=h.form.pa i hi e
  obtain ⟨a,b⟩:=So.FX hp n m w hd hk
  have o:=n.fit.lt m
  have f:∀x v,So.Wr [So.cV (E.pa i) q k d] x v→So.cW (E.pa i) x:=fun x v hw=>So.Gn hp o hk hw
  obtain ⟨s,t2⟩:=h.turn hi e a b (fun c=>h.form.val i hi c) f (fun y hy=>by
    rcases So.sw _ y hy with h1|hw
    · exact h.bQ y h1
    · obtain ⟨j,u,_,_,l,_⟩:=So.kl hk hw
      obtain ⟨r,p⟩:=Jy hp o u
      exact .inr ⟨i,hi,e,by rw [l];exact r,by rw [l];exact p⟩)
  refine ⟨a,s,?_,t2⟩
  have:=So.kS h.ok [So.cV (E.pa i) q k d]
  simpa [So.cV,So.sec] using this
theorem aD.aF (h:aD E st) {k:Nat} {d:zL} (hd:d.length % 64= 0) (hk:k+d.length / 64<=E.n): (So.aa st [.wr (17+k) d]).2= 0/\aD E (So.aa st [.wr (17+k) d]).1/\(So.aa st [.wr (17+k) d]).1.P.length<=st.P.length+d.length / 64/\∀j,raw (So.aa st [.wr (17+k) d]).1 j= if k<=j/\j<k+d.length / 64 then So.piece d (j - k) else raw st j:=by
 have f:=h.form.small;have b:=So.kf h.ok h.dE (ops:= [.wr (17+k) d]) (λo ho=>by rw [H5.1 ho];exact ⟨hd,by rw [h.dK];omega⟩);have a:=λx=>So.lW h.ok b.1 x;have hu:∀x,Dm.one (So.aa st [.wr (17+k) d]).1 x= if 17+k<=x/\x<17+k+d.length / 64 then (d.drop (64* (x - (17+k)))).take 64 else Dm.one st x:=λx=>a x;have off:∀x,¬(17<=x/\x<17+E.n)->Dm.one (So.aa st [.wr (17+k) d]).1 x= Dm.one st x:=λx hx=>by rw [hu,if_neg (by omega)]
 refine ⟨b.1,⟨h.form,(So.gL h.ok _).1,(So.gL h.ok _).2.trans h.dK,b.2,⟨by rw [off 0 (by omega)];exact h.gW.sup,λi hi=>by rw [off _ (by omega)];exact h.gW.slot i hi,λi hi h0=>(h.gW.ed i hi h0).lh (h.form.pa i hi h0) (h.form.fit i hi h0) λx hx=>off x (by have:=(h.form.low hi h0 hx).1;omega)⟩,λy hy=>?_⟩,?_,λj=>?_⟩;·
  rcases So.sw _ y hy with h1|⟨e,c,hm,h1,g,_⟩;· exact h.bQ y h1
  ·injection H5.1 hm with e1 e2;subst e1 e2;exact .inl (by omega)
 ·have:=So.kS h.ok [.wr (17+k) d];simpa [So.sec] using this
 ·unfold raw;rw [hu];by_cases c:k<=j/\j<k+d.length / 64;· rw [if_pos c,if_pos (by omega),show 17+j - (17+k)= j - k by omega];rfl
  ·rw [if_neg c,if_neg (by omega)]
theorem aD.fl (h:aD E st):(So.step st .fl).2= 0/\aD E (So.step st .fl).1/\(So.step st .fl).1.P= []/\∀x,Dm.one (So.step st .fl).1 x= Dm.one st x:=by have b:=So.wh h.dE (o:= .fl) (by trivial);have a:=λx=>So.wg h.ok b.1 x;have d:=So.wj b.1;have c:∀x,Dm.one (So.step st .fl).1 x= Dm.one st x:=λx=>a x;have f:=funext c;exact ⟨b.1,⟨h.form,(So.step_ok h.ok .fl).1,(So.step_ok h.ok .fl).2.trans h.dK,b.2,by rw [f];exact h.gW,by rw [d];intro y e;cases e⟩,d,c⟩
open Go.RowKit
def aB (x:Int):Ending:= .panicked [{v:= .iface 142 (.agg #[zI x]),recovered:=false}]
def aP (x:Int):Ending:=if x= 0 then nf (CE #[]) else aB x
theorem cF:aP 0= nf (CE #[]):=rfl
theorem aX {x:Int} (h:x≠0):aP x= aB x:=by unfold aP;rw [if_neg h]
theorem dv (w:World):zF 91 #[zI 0] w (zQ (CE #[]) w):=by go_enter func91,ntmps91;go_wp2;go_end0;exact ⟨rfl,rfl⟩
theorem dy (x:Int) (h:x≠0) (w:World):zF 91 #[zI x] w λe w'=>e= aB x/\w= w':=by
 have a:(x != 0):=by simpa using h
 unfold aB;go_enter func91,ntmps91;go_wp2;exact ⟨rfl,rfl,rfl⟩
theorem iI (w:World):zF 106 #[.bool true] w (zQ (CE #[]) w):=by go_enter func106,ntmps106;go_wp2;go_end0;exact ⟨rfl,rfl⟩
theorem jd (v:Int) (w:World):zF 104 #[zI v,zI 0] w (zQ (zI v) w):=by have NE:=hT (λw1=>dv w1);go_enter func104,ntmps104;go_wp2_with fail;refine zh (NE.out _) ?_;go_wp2;go_ret;exact ⟨rfl,rfl⟩
theorem eL (v:Value) (w:World):zF 93 #[v,zI 0] w λe w'=>e= nf v/\w= w':=by have NE:=hT (λw1=>dv w1);go_enter func93,ntmps93;go_wp2_with fail;refine zh (NE.out _) ?_;go_wp2;go_ret;exact ⟨rfl,rfl⟩
theorem J6 (v:Value) (w:World):zF 113 #[v,zI 0] w λe w'=>e= nf v/\w= w':=by have NE:=hT (λw1=>dv w1);go_enter func113,ntmps113;go_wp2_with fail;refine zh (NE.out _) ?_;go_wp2;go_ret;exact ⟨rfl,rfl⟩
theorem J7 (v:Value) (x:Int) (h:x≠0) (w:World):zF 113 #[v,zI x] w λe w'=>e= aB x/\w= w':=by have NE:=hT (λw1=>dy x h w1);unfold aB at NE⊢;go_enter func113,ntmps113;go_wp2_with fail;refine zh (NE.out _) ?_;go_wp2;exact ⟨rfl,rfl,rfl⟩
theorem J8 (v:Value) (w:World):zF 97 #[v,zI 0] w λe w'=>e= nf v/\w= w':=by have NE:=hT (λw1=>iI w1);go_enter func97,ntmps97;go_wp2_with fail;refine zh (NE.out _) ?_;go_wp2;go_ret;exact ⟨rfl,rfl⟩
theorem J9 (v:Value) (w:World):zF 100 #[v,zI 0] w λe w'=>e= nf v/\w= w':=by have NE:=hT (λw1=>iI w1);go_enter func100,ntmps100;go_wp2_with fail;refine zh (NE.out _) ?_;go_wp2;go_ret;exact ⟨rfl,rfl⟩
theorem J_ (v:Value) (w:World):zF 108 #[v,zI 0] w λe w'=>e= nf v/\w= w':=by have NE:=hT (λw1=>iI w1);go_enter func108,ntmps108;go_wp2_with fail;refine zh (NE.out _) ?_;go_wp2;go_ret;exact ⟨rfl,rfl⟩
theorem ue (x:Int) (w:World):(Instr.typeAssert (.iface 142 (.agg #[zI x])) 20 142 true).run prog w= .ok (CE #[.agg #[zI x], .bool true]) w:=by kernel_rfl
theorem ug (x:Int) (w:World):(binOp .eql 20 (.iface 142 (.agg #[zI x])) .nilIface).run prog w= .ok (.bool false) w:=by kernel_rfl
theorem uh (w:World):(binOp .eql 20 .nilIface .nilIface).run prog w= .ok (.bool true) w:=by kernel_rfl
theorem ui (p:Addr) (x y:Int) (older:List PanicEntry) (w:World) (d:w.cell? p= some (zI y)) (b:w.frozen? p= false) (hp:p.block<w.heap.size): CallsD prog 89 #[xb (some p)] (.panicking ({v:= .iface 142 (.agg #[zI x]),recovered:=false} :: older)) w λe u' w'=> e= nf (CE #[])/\u'= (.panicking ({v:= .iface 142 (.agg #[zI x]),recovered:=true} :: older))/\w'= (w.alloc (hV #[zI x] 142)).setCell p (zI x):=by have h1:=λw=>ue x w;have f:=λw=>ug x w;have c:(w.alloc (hV #[zI x] 142)).cell? p= some (zI y):=(((zA).cell hp)).trans d;have a:(w.alloc (hV #[zI x] 142)).frozen? p= false:=(((zA).frozen hp)).trans b;refine callsD_of_wpS func89 rfl λc₀ cs hu=>?_;apply wpS_seq;apply wpS_region;simp [wpOpsS,go_sem,recoverD,hu,ntmps89,Exit.thenS];rw [show (#[xb (some p)] ++ (Vr 11 undef).setIfInBounds 3 (.iface 142 (.agg #[zI x])))= #[xb (some p),undef,undef,undef,(.iface 142 (.agg #[zI x])),undef,undef,undef,undef,undef,undef,undef]from rfl];refine wpS_of_wp ?_;go_wp2;simp [bodyPostS,results,results89]
theorem ov (p:Addr) (w:World): CallsD prog 89 #[xb (some p)] .returning w λe u' w'=> e= nf (CE #[])/\u'= .returning/\w'= w:=by have a:=uh;refine callsD_of_wpS func89 rfl λc₀ cs hu=>?_;apply wpS_seq;apply wpS_region;simp [wpOpsS,go_sem,recoverD,hu,ntmps89,Exit.thenS];rw [show (#[xb (some p)] ++ (Vr 11 undef).setIfInBounds 3 .nilIface)= #[xb (some p),undef,undef,undef, .nilIface,undef,undef,undef,undef,undef,undef,undef]from rfl];refine wpS_of_wp ?_;go_wp2;cases c₀;simp_all [bodyPostS,results,results89]
variable{f:FuncId}
theorem ky {first cap:Array Value} {Z:Int->World->Prop} (ef:∀args w,(callFunc f args).run prog w= .ok (.enter f args) w) (i:∀x w2,Z x w2->w2.heap[w.heap.size]?= some (hV #[zI 0] 38 (0,0))) (l:zF f (first ++ cap) (w.alloc (hV #[zI 0] 38)) λe w2=>∃x,e= aP x/\Z x w2): zF 42 #[.func (.func f) first cap] w λe w'=>∃x w2,e= nf (zI x)/\Z x w2/\ae.Fr (λk=>k= w.heap.size) w2 w':=by
 have q:=hT l;have p:=hT i;clear l i;go_enter_defers func42,ntmps42;go_wp2_with fail;refine q.out.mono ?_;rintro e w1 ⟨x,rfl,g⟩;have c:=p.out x w1 g;have a:=(DN.1 c).1;have c1:w1.cell? (zz w 0)= some (zI 0):=zW c;have f1:=frozen_of_row (j:=0) _ _ _ _ c;have n:=hT g;clear g c;by_cases m:x= 0;· subst m;rw [cF];go_wp2;refine leaves_cons (f:=89) (args:=#[zP w.heap.size]) (by simp) (by simp [go_sem]) ?_;refine (ov ⟨w.heap.size,0,none⟩ _).mono ?_;rintro e o d ⟨rfl,rfl,rfl⟩;have h:(w1.setCell ⟨w.heap.size,0,none⟩ (zI 0)).cell? (zz w 0)= some (zI 0):=UY w1 _ _ c1;simp [Leaves,settle,results,results42,go_sem,h];exact ⟨w1,n.out,ae.Fr.setCell (F:=λk=>k= w.heap.size) (ae.Fr.refl _ w1) ⟨w.heap.size,0,none⟩ rfl _⟩
 ·rw [aX m];unfold aB;go_wp2;refine leaves_cons (f:=89) (args:=#[zP w.heap.size]) (by simp) (by simp [go_sem]) ?_;refine (ui ⟨w.heap.size,0,none⟩ x 0 [] _ c1 f1 a).mono ?_;rintro e o d ⟨rfl,rfl,rfl⟩;have b:zB w1 (w1.alloc (hV #[zI x] 142)):=zA;have c2:=(b.cell a).trans c1;have h:((w1.alloc (hV #[zI x] 142)).setCell ⟨w.heap.size,0,none⟩ (zI x)).cell? (zz w 0)= some (zI x):=UY _ _ _ c2;simp [Leaves,settle,results,results42,go_sem,h];exact ⟨w1,n.out,ae.Fr.setCell (F:=λk=>k= w.heap.size) (ae.Fr.ax b) ⟨w.heap.size,0,none⟩ rfl _⟩
open Go.RowKit
def Eb.de (B:Eb) (E:En) (id:Int):Value:=if E.has id= true then B.ptr (id - 1).toNat else xb none
theorem Ek.de (h:Ek w B E st) {id:Int} {k:Nat} (hk:k<16) (e:id= (k:Int) +1) (a:(E.one k).t≠0):B.de E id= xb (some ⟨B.sq k,0,none⟩):=by unfold Eb.de;rw [if_pos (cO.2 ⟨k,hk,e,a⟩),show (id - 1).toNat= k by omega,h.ptr k hk,if_neg a]
theorem qC (h:E.has id= false):B.de E id= xb none:=by unfold Eb.de;rw [h];rfl
theorem ox (h:Hd w B E) (id:Int): zF 81 #[zP B.q,zI id] w (zQ (B.de E id) w):=by have R:=hT (mz h id);cases hh:E.has id with
 | false => rw [hh]at R;rw [qC hh];clear hh h;go_enter func81,ntmps81;go_wp2_with fail;refine zh R.out ?_;go_wp2_with fail;go_ret;exact ⟨rfl,rfl⟩
 | true =>
 rw [hh]at R;obtain ⟨k,hk,b,_⟩:=cO.1 hh;have a:B.de E id= B.ptr k:=by unfold Eb.de;rw [hh,show (id - 1).toNat= k by omega];rfl
 rw [a];have hw:lg.wrap (id - 1)= (k:Int):=by rw [rr _ (by omega)];omega
 have c:=h.ptr hk;generalize B.ptr k= v at c;clear hh h a b;go_enter func81,ntmps81;go_wp2_with fail;refine zh R.out ?_;go_wp2_with fail;go_ret;exact ⟨rfl,rfl⟩
def En.aW (E:En) (id:Int):Int:=if id= 0 then (E.al:Int) else id
theorem Hd.below (h:Hd w B E) (hb:zB w w'):Hd w' B E:=(hb.block B.q (ae.lt_of_heap h)).trans h
theorem oy (h:Hd w B E) (id:Int): zF 119 #[zP B.q,zI id] w (zJ (B.de E (E.aW id)) w):=by
 have H:=hT h;unfold En.aW;by_cases a:id= 0;· subst a;rw [if_pos rfl];have R:=hT (jB h);generalize (E.al:Int)= m at R⊢;clear h;go_enter func119,ntmps119;go_wp2_with fail;refine zg R.out λw1 hb=>?_;have b:=hT (ox (H.out.below hb) m);have c:=hT hb;clear hb;go_wp2_with fail;refine zh b.out ?_;go_wp2_with fail;go_ret;exact ⟨rfl,c.out⟩
 ·rw [if_neg a];have R:=hT (ox h id);have d0:(id == 0)= false:=by simpa using a
  clear h a;go_enter func119,ntmps119;go_wp2_with fail;refine zh R.out ?_;go_wp2_with fail;go_ret;exact ⟨rfl,G3 _ _⟩
def En.refuse (E:En) (id:Int):Int:=if id= 0 then 0 else if E.has id= true then (if (E.al:Int)= id then 163 else if (E.one (id - 1).toNat).M.inv= true then 162 else 0) else 161
theorem lB (h:Ek w B E st) (id:Int): zF 50 #[zP B.q,zI id] w (zJ (zI (E.refuse id)) w):=by
 obtain ⟨T,a⟩:=eX1 (E.refuse id);rw [<-a];unfold En.refuse at a;by_cases c:id= 0;· subst c;rw [if_pos rfl]at a;subst a;clear h;go_enter func50,ntmps50;go_wp2_with fail;go_ret;exact ⟨rfl,G3 _ _⟩
 ·rw [if_neg c]at a;have d0:(id == 0)= false:=by simpa using c
  have R:=hT (mz h.head id);cases hh:E.has id with
   | false => rw [hh]at R a;rw [if_neg (by decide)]at a;subst a;clear h c hh;go_enter func50,ntmps50;go_wp2_with fail;refine zh R.out ?_;go_wp2_with fail;go_ret;exact ⟨rfl,G3 _ _⟩
   | true =>
   rw [hh]at R a;rw [if_pos rfl]at a;obtain ⟨k,hk,f,hu⟩:=cO.1 hh;have d:=hT (jB h.head);rw [show (id - 1).toNat= k by omega]at a;have n:=hT (h.de hk f hu);by_cases hm:(E.al:Int)= id;·
    rw [if_pos hm]at a;subst a;have d1:((E.al:Int) == id):=by simpa using hm
    generalize (E.al:Int)= m at d d1;clear h c hh hm f;go_enter func50,ntmps50;go_wp2_with fail;refine zh R.out ?_;go_wp2_with fail;refine zg d.out λw1 hb=>?_;have e:=hT hb;clear hb;go_wp2_with fail;go_ret;exact ⟨rfl,e.out⟩
   ·rw [if_neg hm]at a;have d1:((E.al:Int) == id)= false:=by simpa using hm
    have j:=hT (λw1 (hb:zB w w1)=>So.mN ((h.below hb).sk k hk hu));have ST:=hT (λw1 (hb:zB w w1)=>ox (h.below hb).head id);generalize (E.one k).M.inv= inv at j a;have l:=hT a;generalize (E.al:Int)= m at d d1;clear h c hh hm f a;go_enter func50,ntmps50;go_wp2_with fail;refine zh R.out ?_;go_wp2_with fail;refine zg d.out λw1 hb=>?_;have e:=hT hb;have g:=hT (ST.out w1 hb);have i:=hT (j.out w1 hb);clear hb;go_wp2_with fail;refine zh g.out ?_;rw [n.out];go_wp2_with fail;refine zh i.out ?_;cases inv with
     | true => have b:Hid (T= 162):=hT (by rw [l.out];rfl);go_wp2_with fail;go_ret;exact ⟨by rw [b.out];rfl,e.out⟩
     | false => have b:Hid (T= 0):=hT (by rw [l.out];rfl);go_wp2_with fail;go_ret;exact ⟨by rw [b.out];rfl,e.out⟩
theorem Lo (f:Nat->Value) (k:Nat) (hk:k<16) (w:World):(VW 91 (.agg (bh 16 f).toArray) (zI k)).run prog w= .ok (f k) w:=by
 have a:(sizeOf 90).run prog w= .ok 1 w:=by kernel_rfl
 have b:(bh 16 f)[k]?= some (f k):=by rw [jb,if_pos hk]
 simp [VW,run_underlying underlying91,asIntOf,hk,part,a,b,go_sem]
theorem Lp (f:Nat->Value):(prog.info? 91).map (·.size)= some (bh 16 f).length:=by rw [pZ];kernel_rfl
theorem En.uC (h:k<E.S.length):E.set k (E.one k)= E:=by unfold En.set En.one;rw [FU,C1 h];simp
theorem An (w:World) (x:Int) (c:zL):So.il (w.alloc (hV #[zI x, .string (Om.B c)] 181)) (some ⟨w.heap.size,0,none⟩) [(x,c)]:=λ_=>by have a:=heap_alloc_new w (hV #[zI x, .string (Om.B c)] 181);refine ⟨w.heap.size,0,rfl,by simp,λi z hz=>?_⟩;match i,hz with
 | 0, hz => injection hz with hz;subst hz;exact ⟨zW a,zW a⟩
 | i+1,hz=>simp at hz
theorem Lq (E:En) (c:Nat) (d:zL) (k n:Nat):∃r,aq E c d (k+n)= aq E c d k ++ r:=by induction n with
 | zero=>exact ⟨[],(Uj _).symm⟩
 | succ n ih => obtain ⟨r,a⟩:=ih;exact ⟨r ++ fk (E.pa (k+n)) (E.one (k+n)) c d,by show aq E c d (k+n) ++ fk (E.pa (k+n)) (E.one (k+n)) c d= _;rw [a,List.append_assoc]⟩
theorem Lr (hk:k<=16) (h:(So.aa st (aq E c d k)).2≠0):So.aa st (aq E c d 16)= So.aa st (aq E c d k):=by obtain ⟨r,a⟩:=Lq E c d k (16 - k);rw [show k+ (16 - k)= 16 by omega]at a;rw [a,So.ke _ h]
structure oF (E:En) (st:Dm.St) (c:Nat) (d:zL):Prop where
 len:E.S.length= 16
 chunk:c<Em.parts E.n E.g
 ok:∀i,i<16->(E.one i).t≠0->(E.pa i).Ok
 fit:∀i,i<16->(E.one i).t≠0->So.Fit (E.pa i) (E.one i).M
 iC:d.length= 64*E.g
 Ls:∀k,k<=16->(So.aa st (aq E c d k)).2= 0->(So.aa st (aq E c d k)).1.P.length<=68719476736/\Og.cE E.n E.g (So.aa st (aq E c d k)).1 c= 0/\Og.cS E.n E.g (So.aa st (aq E c d k)).1 c= d
def lE (B:Eb) (E:En) (st:Dm.St) (c:Nat) (d:zL) (w:World) (e:Ending) (w':World):Prop:= e= aP (So.aa st (aq E c d 16)).2/\∃E',ai B E E' (So.aa st (aq E c d 16)).1 w w'/\((So.aa st (aq E c d 16)).2= 0->E'= E.aJ c d 16)
structure At (B:Eb) (E:En) (st:Dm.St) (c:Nat) (d:zL) (w:World) (k:Nat) (B':Eb) (wr:World):Prop where
 ok:(So.aa st (aq E c d k)).2= 0
 ek:Ek wr B' (E.aJ c d k) (So.aa st (aq E c d k)).1
 ez:br B E B' (E.aJ c d k) w wr
 ptr:B'.ptr= B.ptr
variable{B':Eb}
theorem At.below {wr w2:World} (h:At B E st c d w k B' wr) (hb:zB wr w2):At B E st c d w k B' w2:=⟨h.ok,h.ek.below hb,h.ez.trans (br.ax hb),h.ptr⟩
theorem At.one {wr:World} (h:At B E st c d w k B' wr) (a:E.S.length= 16) (hk:k<16):(E.aJ c d k).one k= E.one k:=by rw [mJ (by omega),if_neg (by omega)]
theorem At.skip {wr:World} (h:At B E st c d w k B' wr) (f:E.S.length= 16) (hk:k<16) (a:(E.one k).dV c= false):At B E st c d w (k+1) B' wr:=by
 have e:aq E c d (k+1)= aq E c d k:=by show aq E c d k ++ fk _ _ c d= _;unfold fk;rw [a,if_neg (by decide),Uj]
 have b:E.aJ c d (k+1)= E.aJ c d k:=by show (E.aJ c d k).set k _= _;unfold Sn.saved;rw [a,if_neg (by decide),<-h.one f hk];exact En.uC (by rw [qw];omega)
 refine ⟨?_,?_,?_,h.ptr⟩;· rw [e];exact h.ok
 ·rw [e,b];exact h.ek
 ·rw [b];exact h.ez
theorem At.turn {wr w2:World} (h:At B E st c d w k B' wr) (n:E.S.length= 16) (hk:k<16) (o:(E.one k).t≠0) {ops:List So.Op} (p:fk (E.pa k) (E.one k) c d= ops) {inv:Bool} {m:zN} (hw:So.ay (B'.bk k) (E.pa k) inv (So.aa (So.aa st (aq E c d k)).1 ops).1 m wr w2) (hm:inv= true->m= []) (hi:(So.aa (So.aa st (aq E c d k)).1 ops).2= 0->inv= ((E.one k).saved (E.pa k) c d).M.inv/\m= ((E.one k).saved (E.pa k) c d).M.aK): ((So.aa (So.aa st (aq E c d k)).1 ops).2= 0->∃B2,At B E st c d w (k+1) B2 w2)/\((So.aa (So.aa st (aq E c d k)).1 ops).2≠0->lE B E st c d w (aB (So.aa (So.aa st (aq E c d k)).1 ops).2) w2):=by
 have e:So.aa st (aq E c d (k+1))= So.aa (So.aa st (aq E c d k)).1 ops:=by show So.aa st (aq E c d k ++ fk _ _ c d)= _;rw [p,So.ia _ h.ok]
 obtain ⟨b2,g,f⟩:=hw;have key:∀M:So.Ms,M.inv= inv->M.aK= m->∃B2,Ek w2 B2 ((E.aJ c d k).set k {E.one k with M:=M}) (So.aa (So.aa st (aq E c d k)).1 ops).1/\br B' (E.aJ c d k) B2 ((E.aJ c d k).set k {E.one k with M:=M}) wr w2/\B2.ptr= B'.ptr:=λM j i=>by have:=h.ek.yS hk (by rw [h.one n hk];exact o) (b':=b2) (M:=M) (by rw [tV (by omega),j,i];exact g) f (So.gL h.ek.dk.ok _).2;rw [h.one n hk]at this;exact this
 refine ⟨λh0=>?_,λh0=>?_⟩;· obtain ⟨j,i⟩:=hi h0;obtain ⟨B2,b,a,l⟩:=key _ j.symm i.symm;rw [<-tU]at b a;refine ⟨B2,by rw [e];exact h0,by rw [e];exact b,h.ez.trans a,l.trans h.ptr⟩
 ·obtain ⟨B2,b,a,l⟩:=key ⟨m, [],inv⟩ rfl (by unfold So.Ms.aK;cases inv with
  | true=>exact (hm rfl).symm
  | false=>rfl);have q:=Lr (E:=E) (c:=c) (d:=d) (st:=st) (k:=k+1) (by omega) (by rw [e];exact h0);unfold lE;rw [q,e];exact ⟨(aX h0).symm,_,⟨B2,b,h.ez.trans a⟩,λc=>absurd c h0⟩
theorem im (h:c<=1048576):(Lit.int lg c).wf= true:=by have a:lg.min= -9223372036854775808:=rfl;have b:lg.max= 9223372036854775807:=rfl;simp only [Lit.wf,N6,decide_eq_true_eq];omega
variable{m:zN}{g:Nat}
theorem Ao (b:c<=1048576) (a:Tb.find m (c:Int)= none) (hd:d.length= 64*g) (e:So.free m≠0):So.fh false m g [((c:Int),d)]= 0:=by
 unfold So.fh;rw [if_neg (by decide),if_pos,if_pos];· show 1<=So.free m;omega
 ·unfold So.iE;rw [N6];refine ⟨?_,by simp⟩;rw [List.all_cons,List.all_nil,Vp];exact So.nM.2 ⟨⟨by omega,by show (c:Int)<=_;omega⟩,a,hd⟩
theorem Ap (h:Ek w B E st) {c:Nat} {d:zL} (hc:oF E st c d): zF 75 #[zP B.q,zI c] w (lE B E st c d w):=by
 have HR:=hT h.head.Gd;have HX:=hT (λk (hk:k<16)=>Lo B.ptr k hk);have j:=hT hc;have H0:Hid (At B E st c d w 0 B w):=hT ⟨rfl,h,br.refl _ _ _,rfl⟩;clear h hc;go_enter func75,ntmps75;go_wp2_with (refine wpList_load_mid rfl 91 _ rfl B.q 69 rfl (bh 16 B.ptr) _ HR.out underlying91 rfl (Lp _) ?_);generalize hAV:Value.agg (bh 16 B.ptr).toArray= AV;rw [hAV]at HX;clear hAV;go_loopw [10] (λi wr=>∃k:Nat,i= zI k/\k<=16/\∃y,Hid (At B E st c d w k y wr)) (λi _=>16 - (wo i).toNat);case atStart=>exact ⟨0,rfl,yb _,B,H0⟩
 case round=>
  obtain ⟨k,rfl,hk,y,f⟩:=hrel;by_cases a:k<16;·
   have d1:decide ((k:Int) <16):=by simp;omega
   have ad:decide (k<16):=by simp;omega
   have bg:(k:Int) <16:=by omega
   have bl:lg.wrap ((k:Int) +1)= ((k+1:Nat):Int):=by rw [rr _ (by omega)];rfl
   have Q:=HX.out k a;have H:=f.out.ez.q;obtain ⟨c0, -, -, -⟩:=f.out.ek.head.slot a;rw [H,f.out.one j.out.len a]at c0;have r:B.ptr k= if (E.one k).t= 0 then xb none else xb (some ⟨y.sq k,0,none⟩):=by rw [<-f.out.ptr,f.out.ek.ptr k a,f.out.one j.out.len a]
   by_cases D:(E.one k).t= 1;· have b:=f.out.ek.sk k a (by rw [f.out.one j.out.len a];omega);rw [f.out.one j.out.len a,tV (by have:=j.out.len;omega)]at b;rw [r,if_neg (by omega)]at Q;rw [D]at c0;have O:=hT (So.mN b);cases hi:(E.one k).M.inv with
    | true =>
    rw [hi]at O;have m:(E.one k).dV c= false:=by unfold Sn.dV;rw [hi];simp
    have C:=hT (f.out.skip j.out.len a m);clear m hi b r D H;go_wp2_with fail;refine zh O.out ?_;go_wp2_with fail;go_roundw;case rel=>exact ⟨k+1,by go_num,by omega,y,C⟩
    case measure=>simp [wo];omega
    | false =>
    rw [hi]at O;have N:(E.one k).M.aK= (E.one k).M.T:=by unfold So.Ms.aK;rw [hi];rfl
    obtain ⟨n1,W,g1,g2⟩:=f.out.ek.aF.small;rw [(gd E c d k).2.1]at n1 W;have I:c<E.n:=by have:=(Em.kL (n:=E.n) (s:=E.g) (k:=c) (by rw [(gd E c d k).2.2]at g1;omega)).1 j.out.chunk;have h1:c<=c*E.g:=UA _ (by rw [(gd E c d k).2.2]at g1;omega);omega
    have v:=So.jL b (c:Int) (im (by omega));rw [N]at v;cases hf:Tb.find (E.one k).M.T (c:Int) with
     | some z =>
     rw [hf]at v;have v:=hT v;have m:(E.one k).dV c= false:=by unfold Sn.dV;rw [hf];simp
     have C:=hT (f.out.skip j.out.len a m);clear m hi b r D H N hf n1 W g1 g2 I;go_wp2_with fail;refine zh O.out ?_;go_wp2_with fail;refine zh v.out ?_;go_wp2_with fail;go_roundw;case rel=>exact ⟨k+1,by go_num,by omega,y,C⟩
     case measure=>simp [wo];omega
     | none =>
     rw [hf]at v;have v:=hT v;have m:(E.one k).dV c:=by unfold Sn.dV;rw [hf,D,hi];simp
     have J:=So.ow b;rw [N]at J;have J:=hT J;have A:=j.out.ok k a (by omega);obtain ⟨m1,Z,Y⟩:=j.out.Ls k hk f.out.ok;by_cases G:So.free (E.one k).M.T= 0;·
      have SP:=hT (λw1 (hb:zB wr w1)=>So.Aa (b.below hb) A (by omega));have TU:Hid (∀w1 w2,zB wr w1->So.ay (y.bk k) (E.pa k) true (So.aa (So.aa st (aq E c d k)).1 (So.bY (E.pa k))).1 [] w1 w2->_):=hT λw1 w2 hb hw=>(f.out.below hb).turn j.out.len a (by omega) (by unfold fk;rw [m,if_pos rfl,if_pos G]) hw (λ_=>rfl) λ_=>by unfold Sn.saved;rw [m,if_pos rfl,if_pos G];exact ⟨rfl,rfl⟩
      have d2:(((So.free (E.one k).M.T:Nat):Int) == 0):=by rw [G];rfl
      generalize ((So.free (E.one k).M.T:Nat):Int)= L at J d2;obtain ⟨X,K⟩:=eX1 ((So.aa (So.aa st (aq E c d k)).1 (So.bY (E.pa k))).2);rw [<-K]at SP TU;clear hi b r D H N hf n1 W g1 g2 I m A m1 Z Y G K;go_wp2_with fail;refine zh O.out ?_;go_wp2_with fail;refine zh v.out ?_;go_wp2_with fail;refine zg J.out λw2 hb=>?_;have ao:=hT (SP.out w2 hb);have af:=hT (λw3=>TU.out w2 w3 hb);clear hb;go_wp2_with fail;refine zg ao.out λw3 hw=>?_;have U:=hT (af.out w3 hw);clear hw;by_cases p:X= 0;·
       subst p;have NE:=hT (λw1=>dv w1);obtain ⟨V,u⟩:=U.out.1 rfl;have C:=hT u;clear u;go_wp2_with fail;refine zh (NE.out _) ?_;go_wp2_with fail;go_roundw;case rel=>exact ⟨k+1,by go_num,by omega,V,C⟩
       case measure=>simp [wo];omega
      ·have NE:=hT (λw1=>dy X p w1);have o:=hT (U.out.2 p);unfold aB at NE o;clear p;go_wp2_with fail;refine zh (NE.out _) ?_;go_wp2;exact ⟨rfl,o.out⟩
     ·have S:=Ao (g:=(E.pa k).g) (d:=d) (by omega:c<=1048576) hf j.out.iC G;have CH:=hT (λw1 (hb:zB wr w1)=>Og.Am (f.out.ek.below hb).aF c (by rw [(gd E c d k).2.1,(gd E c d k).2.2];exact j.out.chunk) (by omega));rw [(gd E c d k).2.1,(gd E c d k).2.2,Z,Y]at CH;rw [hi,N]at b;have F:=(j.out.fit k a (by omega)).fD;obtain ⟨X,K⟩:=eX1 ((So.aa (So.aa st (aq E c d k)).1 (So.aV (E.pa k) (E.one k).M.T [((c:Int),d)] (So.aI (So.ak (E.one k).M.T [((c:Int),d)])))).2);have P: [((c:Int),d)]≠ []:=by simp
      have AD:Hid (∀w1,zB wr w1->zF 137 #[xb (some ⟨y.sq k,0,none⟩), zS w1.heap.size 1 1] (w1.alloc (hV #[zI c, .string (Om.B d)] 181)) λe w'=>e= nf (zI X)/\ ((X= 0->∃V,At B E st c d w (k+1) V w')/\(X≠0->lE B E st c d w (aB X) w'))):=hT λw1 hb=>by
       have R:zB wr (w1.alloc (hV #[zI c, .string (Om.B d)] 181)):=hb.alloc hb.size _;refine (So.Ad (b.below R) A (λ_=>F) (l:= [((c:Int),d)]) 1 1 rfl (by omega) m1 (some ⟨w1.heap.size,0,none⟩) (An w1 _ d) (λg off _ e hf2=>?_) (λx p=>?_)).mono ?_;· injection e with e;injection e with e1 _ _;subst e1;have:=b.lt _ hf2;have:=hb.size;omega
       ·rw [H5]at p;subst p;exact im (by omega)
       ·rintro e w' (⟨h1|h1,_⟩|⟨_,_,rfl,m',h2,h3⟩);· exact absurd S h1
        ·exact absurd h1 P
        ·refine ⟨by rw [K],?_⟩;have:=(f.out.below R).turn j.out.len a (by omega) (by unfold fk;rw [m,if_pos rfl,if_neg G]) h2 (λc=>by cases c) λp=>by unfold Sn.saved;rw [m,if_pos rfl,if_neg G];refine ⟨hi.symm,?_⟩;rw [h3 p];unfold So.Ms.aK;show _= if (E.one k).M.inv= true then []else _;rw [hi];rfl
         rw [<-K]at this;exact this
      have aw:Hid (∀w1,zB wr w1->w1.cell? (zD B.q 4)= some (zP y.oq)):=hT λw1 hb=>by have:=(f.out.ek.below hb).head.low.2.2.2.2;rw [H]at this;exact this
      have d2:(((So.free (E.one k).M.T:Nat):Int) == 0)= false:=by simp;omega
      generalize ((So.free (E.one k).M.T:Nat):Int)= L at J d2;clear hi b r D H N hf n1 W g1 g2 I m A m1 Z Y G K F S P;go_wp2_with fail;refine zh O.out ?_;go_wp2_with fail;refine zh v.out ?_;go_wp2_with fail;refine zg J.out λw2 hb=>?_;have bb:=hT (CH.out w2 hb);have ab:=aw.out w2 hb;have ba:=hT hb;clear hb;go_wp2_with fail;refine zg bb.out λw3 hb=>?_;have MU:=hT (λw1=>eL (.string (Om.B d)) w1);have bf:=hT (AD.out w3 (zH ba hb));clear hb ab;go_wp2_with fail;refine zh (MU.out _) ?_;go_wp2_with fail;refine zg bf.out λw4 hw=>?_;have U:=hT hw;clear hw;by_cases p:X= 0;·
       subst p;have NE:=hT (λw1=>dv w1);obtain ⟨V,u⟩:=U.out.1 rfl;have C:=hT u;clear u;go_wp2_with fail;refine zh (NE.out _) ?_;go_wp2_with fail;go_roundw;case rel=>exact ⟨k+1,by go_num,by omega,V,C⟩
       case measure=>simp [wo];omega
      ·have NE:=hT (λw1=>dy X p w1);have o:=hT (U.out.2 p);unfold aB at NE o;clear p;go_wp2_with fail;refine zh (NE.out _) ?_;go_wp2;exact ⟨rfl,o.out⟩
   ·have m:(E.one k).dV c= false:=by unfold Sn.dV;rw [decide_eq_false D];rfl
    have C:=hT (f.out.skip j.out.len a m);have d2:(((E.one k).t:Int) != 1):=by simp;omega
    generalize ((E.one k).t:Int)= t at c0 d2;generalize B.ptr k= pv at Q;clear m r D H;go_wp2_with fail;go_roundw;case rel=>exact ⟨k+1,by go_num,by omega,y,C⟩
    case measure=>simp [wo];omega
  ·have d1:decide ((k:Int) <16)= false:=by simp;omega
   have ad:decide (k<16)= false:=by simp;omega
   have e:k= 16:=by omega
   subst e;have o:Hid (lE B E st c d w (nf (CE #[])) wr):=hT ⟨by rw [f.out.ok];rfl,_,⟨y,f.out.ek,f.out.ez⟩,λ_=>rfl⟩;go_wp2_with fail;go_end0;exact o.out
theorem jO (w:World) (c f n:Int) (W0:World) (h:w.alloc (zK c f n 107)= W0):zB w W0/\∀w',zB W0 w'->w'.cell? (zz w 0)= some (zI c)/\w'.cell? (zz w 1)= some (zI f)/\w'.cell? (zz w 2)= some (zI n):=by subst h;have b:=heap_alloc_new w (zK c f n 107);refine ⟨zA,λw' hb=>?_⟩;have a:=(hb.block w.heap.size (by simp)).trans b;refine ⟨?_,?_,?_⟩<;>(rw [cell_of_row _ _ _ _ _ _ a];rfl)
theorem Lt (x y:Int) (w:World):(Instr.field 103 (zM x y) 1).run prog w= .ok (zI y) w:=by kernel_rfl
theorem Aq (h:Hd w B E) (hu:Um.aj (E.a:Int) (E.n:Int) (E.g:Int)) (c f:Nat) (n:Int) (m:c*E.g+f<=1048576): zF 123 #[zP B.q, zO c f n] w (zJ (zI ((c*E.g+f:Nat):Int)) w):=by
 have GE:=hT (λw1=>gC (E.a:Int) (E.n:Int) (E.g:Int) w1 hu);have hm:c*E.g<=1048576:=by omega
 obtain ⟨p,hp⟩:=eX1 (c*E.g);have z:lg.wrap ((c:Int) * (E.g:Int))= (p:Int):=by rw [hp,rr _ (by rw [<-Int.natCast_mul];omega)];simp
 have y:lg.wrap ((p:Int) + (f:Int))= ((p+f:Nat):Int):=by rw [rr _ (by omega)];rfl
 rw [<-hp];obtain ⟨j,b⟩:=eX2 (w.alloc (zK c f n 107));obtain ⟨i,e⟩:=jO w _ _ _ j b;have d:=hT i;have r:=hT e;obtain ⟨C,a1,_⟩:=e j zR;have l:=hT (λw1 hb=>h.below (w':=w1) hb);obtain ⟨A,b1,b2,_,_⟩:=(l.out j i).low;have o:=λw1=>Lt (E.n:Int) (E.g:Int) w1;clear i e hm hp m hu h;go_enter func123,ntmps123;go_upto_region 1 with fail;clear b;go_region_held3 (λw'=>w'.cell? (zz w 0)= some (zI c)/\w'.cell? (zz w 1)= some (zI f)/\w'.cell? (zD B.q 0)= some (zI E.a)/\w'.cell? (zD B.q 1)= some (zI E.n)/\w'.cell? (zD B.q 2)= some (zI E.g)) (first|(refine ⟨?_,?_,?_,?_,?_⟩<;>assumption)|go_keep) (first|(go_at_call 51;refine zg (GE.out _) λw1 hb=>?_;have k:=hT (Og.dL hb);obtain ⟨x,v,_⟩:=r.out w1 k.out;obtain ⟨u,t,s,_,_⟩:=(l.out w1 (d.out.trans (k.out.mono d.out.size))).low;clear hb));go_wp2;go_ret;exact ⟨rfl,d.out.trans (k.out.mono d.out.size)⟩
def En.dO (E:En) (id:Int) (c:Nat):Option Nat:=if E.has (E.aW id)= true then Tb.find (E.one (E.aW id - 1).toNat).M.aK (c:Int) else none
def fm (E:En) (st:Dm.St) (id:Int) (x:Em.Pc):zL:=match E.dO id x.c with
 | some i=>Dm.aA st (((E.pa (E.aW id - 1).toNat).data i:Int) + (x.f:Int)) (x.n:Int)
 | none=>Og.rS E.n st ((x.c*E.g+x.f:Nat):Int) (x.n:Int)
structure fJ (E:En) (x:Em.Pc):Prop where
 low:x.c*E.g+x.f+x.n<=E.n
 chunk:x.f+x.n<=E.g
theorem LD (h:Ek w B E st) (hu:Um.aj (E.a:Int) (E.n:Int) (E.g:Int)) (id:Int) (x:Em.Pc) (K:fJ E x) (hd:st.dead= false) (N:st.P.length<=274877906944) (i:E.dO id x.c= none): zF 58 #[zP B.q,zI id, zO x.c x.f x.n] w (zJ (.string (Om.B (fm E st id x))) w):=by
 obtain ⟨n1,M,g1,g2⟩:=h.aF.small;have j:=K.low;have z:x.c<=E.n:=by have:x.c<=x.c*E.g:=UA _ (by omega);omega
 have FI:=hT (λw1 (hb:zB w w1)=>oy (h.head.below hb) id);have p:Hid (∀w1,zB w w1->zF 120 #[B.de E (E.aW id),zI x.c] w1 λe w'=>e= nf (.bool false)/\w1= w'):=hT λw1 hb=>by unfold En.dO at i;cases hh:E.has (E.aW id) with
  | false=>rw [qC hh];exact So.Av _ w1
  | true => rw [hh,if_pos rfl]at i;obtain ⟨k,hk,O,L⟩:=cO.1 hh;rw [h.de hk O L];rw [show (E.aW id - 1).toNat= k by omega]at i;have:=So.jL ((h.below hb).sk k hk L) (x.c:Int) (im (by omega));rw [i]at this;exact this
 obtain ⟨s,l⟩:=eX2 (w.alloc (zK x.c x.f x.n 107));obtain ⟨r,C⟩:=jO w _ _ _ s l;have S:=hT r;have H:=hT C;have d:Hid (∀w1,zB s w1->zB w w1):=hT λw1 hb=>r.trans (hb.mono r.size);have G:Hid (∀w1,zB w w1->w1.cell? (zD B.q 4)= some (zP B.oq)):=hT λw1 hb=>(h.head.below hb).low.2.2.2.2;have AT:=hT (λw1 (hb:zB w w1)=>Aq (h.head.below hb) hu x.c x.f (x.n:Int) (by omega));have m:Og.rE E.n st ((x.c*E.g+x.f:Nat):Int) (x.n:Int)= 0:=by unfold Og.rE;rw [if_pos (Og.mu.2 ⟨by omega,by omega,by omega⟩)];unfold Dm.aY;have b:=h.aF.room;have b:=b;rw [hd,if_neg (by decide),if_pos];unfold Dm.dn;exact decide_eq_true ⟨by omega,by omega,by omega⟩
 have F:Hid (∀w1,zB w w1->zF 128 #[zP B.oq,zI ((x.c*E.g+x.f:Nat):Int),zI x.n] w1 λe w'=>e= zV (.string (Om.B (fm E st id x))) (zI 0)/\zB w1 w'):=hT λw1 hb=>by have:=Og.Af (h.below hb).aF ((x.c*E.g+x.f:Nat):Int) (x.n:Int) (by omega) (by omega);rw [m]at this;unfold fm;rw [i];exact this
 have R:=hT (λv w1=>eL v w1);obtain ⟨Q,b1,b2⟩:=C s zR;generalize ((x.c*E.g+x.f:Nat):Int)= A at AT F;generalize B.de E (E.aW id)= V at FI p;generalize fm E st id x= D at F⊢;obtain ⟨c,f,n⟩:=x;clear h hu K hd N i r C j z n1 M g1 g2 m;go_enter func58,ntmps58;go_wp2_with fail;clear l;have I:=hT (FI.out s S.out);refine zg I.out λw1 hb=>?_;have u:=hT hb;have o:=hT (p.out w1 (d.out w1 hb));obtain ⟨t0,t1,t2⟩:=H.out w1 hb;have q4:=G.out w1 (d.out w1 hb);clear hb Q b1 b2;go_wp2_with fail;refine zh o.out ?_;go_wp2_with fail;go_region_held3 (λw'=>w'.cell? (zD B.q 4)= some (zP B.oq)/\w'.cell? (zz w 0)= some (zI c)/\w'.cell? (zz w 1)= some (zI f)/\w'.cell? (zz w 2)= some (zI n)) (first|(refine ⟨?_,?_,?_,?_⟩<;>assumption)|go_keep) (first
  | (go_at_call 123;refine zg ((AT.out _ (d.out _ (u.out.trans (zR.drew.mono u.out.size))))) λw3 hb=>?_;have t:=hT (u.out.trans ((Og.dL hb).mono u.out.size));obtain ⟨Z,Y,X⟩:=H.out w3 t.out;have r4:=G.out w3 (d.out w3 t.out);clear hb)
  | (go_at_call 128;refine zg (F.out _ (d.out _ t.out)) λy hb=>?_;have J:=zT t hb;obtain ⟨W,U,T⟩:=H.out y J.out;have s4:=G.out y (d.out y J.out);clear hb)
  | (go_at_call 93;refine zh (R.out _ _) ?_));go_wp2;go_ret;exact ⟨rfl,d.out _ J.out⟩
theorem LG (h:Ek w B E st) (id:Int) (x:Em.Pc) (u:fJ E x) (hd:st.dead= false) (L:st.S.length= E.a) (O:st.P.length<=274877906944) {k i:Nat} (hk:k<16) (e1:E.aW id= (k:Int) +1) (o:(E.one k).t≠0) (hp:(E.pa k).Ok) (N:So.Fit (E.pa k) (E.one k).M) (j:Tb.find (E.one k).M.aK (x.c:Int)= some i): zF 58 #[zP B.q,zI id, zO x.c x.f x.n] w (zJ (.string (Om.B (fm E st id x))) w):=by
 obtain ⟨n1,R,g1,g2⟩:=h.aF.small;have l:=u.low;have C:=u.chunk;have A:x.c<=E.n:=by have:x.c<=x.c*E.g:=UA _ (by omega);omega
 have hinv:(E.one k).M.inv= false:=by cases hi:(E.one k).M.inv with
  | false=>rfl
  | true =>
  have:(E.one k).M.aK= []:=by unfold So.Ms.aK;rw [hi];rfl
  rw [this]at j;simp [Tb.find]at j
 have d:=cO.2 ⟨k,hk,e1,o⟩;have FI:=hT (λw1 (hb:zB w w1)=>oy (h.head.below hb) id);rw [h.de hk e1 o]at FI;have J:Hid (∀w1,zB w w1->zF 120 #[xb (some ⟨B.sq k,0,none⟩),zI x.c] w1 λe w'=>e= nf (.bool true)/\w1= w'):=hT λw1 hb=>by have:=So.jL ((h.below hb).sk k hk o) (x.c:Int) (im (by omega));rw [j]at this;exact this
 have Q:Hid (∀w1,zB w w1->zF 127 #[xb (some ⟨B.sq k,0,none⟩),zI x.c,zI x.f,zI x.n] w1 λe w'=>e= zV (.string (Om.B (fm E st id x))) (zI 0)/\zB w1 w'):=hT λw1 hb=>by
  refine (So.LB ((h.below hb).sk k hk o) hp (λ_=>by unfold So.Ms.aK;rw [hinv];exact N.fD) (x.c:Int) (x.f:Int) (x.n:Int) (im (by omega)) (im (by omega)) hd L O).mono ?_;have y:So.rE (E.one k).M.inv (E.one k).M.aK (E.pa k) (x.c:Int) (x.f:Int) (x.n:Int)= 0:=by
   have z:So.fE false (E.one k).M.aK (x.c:Int)= 0:=by unfold So.fE;rw [if_neg (by decide:¬(false= true)),if_pos (by rw [j];rfl)]
   unfold So.rE;rw [hinv,z,if_pos rfl,if_pos (So.pX.2 ⟨by omega,by omega,by show (x.n:Int)<=(E.g:Int) - x.f;omega⟩)]
  rintro e w' ⟨G,⟨c,_⟩|⟨_,i',b,rfl⟩⟩;· exact absurd y c
  ·rw [j]at b;injection b with b;subst b;unfold fm En.dO;rw [d,if_pos rfl,show (E.aW id - 1).toNat= k by omega,j];exact ⟨rfl,G⟩
 obtain ⟨s,m⟩:=eX2 (w.alloc (zK x.c x.f x.n 107));obtain ⟨r,F⟩:=jO w _ _ _ s m;have W:=hT r;have V:=hT F;have I:Hid (∀w1,zB s w1->zB w w1):=hT λw1 hb=>r.trans (hb.mono r.size);have U:=hT (λv w1=>eL v w1);obtain ⟨T,b1,b2⟩:=F s zR;generalize fm E st id x= D at Q⊢;obtain ⟨c,f,n⟩:=x;clear h u hd L O j r F l C A n1 R g1 g2 hp N hinv d o e1;go_enter func58,ntmps58;go_wp2_with fail;clear m;have K:=hT (FI.out s W.out);refine zg K.out λw1 hb=>?_;have Y:=hT hb;have p:=hT (J.out w1 (I.out w1 hb));have H:=hT (Q.out w1 (I.out w1 hb));obtain ⟨t0,Z,t2⟩:=V.out w1 hb;clear hb T b1 b2;go_wp2_with fail;refine zh p.out ?_;go_wp2_with fail;refine zg H.out λw3 hb=>?_;have X:=zT Y hb;clear hb;go_wp2_with fail;refine zh (U.out _ _) ?_;go_wp2_with fail;go_ret;exact ⟨rfl,I.out _ X.out⟩
theorem ai.low (h:ai B E E' st w w'):w'.cell? (zD B.q 0)= some (zI E'.a)/\w'.cell? (zD B.q 1)= some (zI E'.n)/\w'.cell? (zD B.q 2)= some (zI E'.g)/\ w'.cell? (zD B.q 3)= some (zP B.d.p):=by obtain ⟨f,hk,e⟩:=h;obtain ⟨a,b,c,d,_⟩:=hk.head.low;rw [e.q]at a b c d;rw [e.dp]at d;exact ⟨a,b,c,d⟩
theorem ai.box (h:ai B E E' st w w') {k:Nat} (hk:k<w.heap.size) (b:¬B.fp E k) (j:Nat):w'.cell? (zD k j)= w.cell? (zD k j):=by obtain ⟨c,_,a⟩:=h;exact So.gV (p:=(zD k j)) (a.fr.block k hk b)
theorem kE (w:World) (t a n:Int) (gen:Int) (W0:World) (h:w.alloc (hV #[zI t,zI a,zI n,zU gen] 68)= W0):zB w W0/\∀w',zB W0 w'->w'.cell? (zz w 0)= some (zI t)/\w'.cell? (zz w 1)= some (zI a)/\w'.cell? (zz w 2)= some (zI n)/\w'.cell? (zz w 3)= some (zU gen):=by subst h;have c:=heap_alloc_new w (hV #[zI t,zI a,zI n,zU gen] 68);refine ⟨zA,λw' hb=>?_⟩;have b:=(hb.block w.heap.size (by simp)).trans c;refine ⟨?_,?_,?_,?_⟩<;>(rw [cell_of_row _ _ _ _ _ _ b];rfl)
theorem Me (h:Ek w B E st) (b:st.P.length<=1099511627776) (c:(Dm.flush st).2= 0): zF 55 #[zP B.q] w λe w'=>e= nf (CE #[])/\ai B E E (Dm.flush st).1 w w':=by have NE:=hT (λw1=>dv w1);have a:=ae.mC h.dk b;rw [c]at a;have a:=hT a;have FI:=hT (λw' (k:ae.ai B.d (Dm.flush st).1 w w')=>h.cP k (So.step_ok h.dk.ok .fl).2);obtain ⟨_,_,_,f,_⟩:=h.head.low;clear h b c;go_enter func55,ntmps55;go_wp2_with fail;refine zg a.out λw1 hw=>?_;have W:=hT hw;clear hw;go_wp2_with fail;refine zh (NE.out _) ?_;go_wp2;go_end0;exact ⟨rfl,FI.out _ W.out⟩
theorem Mf (h:Ek w B E st) (b:st.P.length<=1099511627776) (c:(Dm.flush st).2≠0): zF 55 #[zP B.q] w λe w'=>e= aB (Dm.flush st).2/\ai B E E (Dm.flush st).1 w w':=by have NE:=hT (λw1=>dy _ c w1);have f:=hT (ae.mC h.dk b);have FI:=hT (λw' (k:ae.ai B.d (Dm.flush st).1 w w')=>h.cP k (So.step_ok h.dk.ok .fl).2);obtain ⟨_,_,_,g,_⟩:=h.head.low;clear h b c;obtain ⟨x,a⟩:=eX1 ((Dm.flush st).2);rw [<-a]at NE f⊢;clear a;unfold aB at NE⊢;go_enter func55,ntmps55;go_wp2_with fail;refine zg f.out λw1 hw=>?_;have W:=hT hw;clear hw;go_wp2_with fail;refine zh (NE.out _) ?_;go_wp2;exact ⟨rfl,rfl,FI.out _ W.out⟩
theorem AH (h:Ek w B E st) (b:st.P.length<=1099511627776): zF 55 #[zP B.q] w λe w'=>e= aP (So.step st .fl).2/\ai B E E (So.step st .fl).1 w w':=by
 show Calls _ _ _ _ λe w'=>e= aP (Dm.flush st).2/\ai B E E (Dm.flush st).1 w w';by_cases a:(Dm.flush st).2= 0;· rw [a];exact Me h b a
 ·rw [aX a];exact Mf h b a
theorem Mg (h:Ek w B E st) (hu:Um.aj (E.a:Int) (E.n:Int) (E.g:Int)) {i:Nat} (hi:i<16) (t a n:Int) (gen:Nat) (f:Tm.bp t a n gen) (I:gen<4294967296) (J:st.P.length<=549755813888) (r:(Dm.write st ((1+i:Nat):Int) (Tm.ah t a n gen)).2= 0): zF 90 #[zP B.q,zI i,Sv t a n gen] w λe w'=>e= nf (CE #[])/\ai B E E (Dm.write st ((1+i:Nat):Int) (Tm.ah t a n gen)).1 w w':=by
 have D:=hT (λw1=>qT t a n gen w1 I f);have z:=hT (λw1=>nV (E.a:Int) (E.n:Int) (E.g:Int) (i:Int) w1 hu (by omega) (by omega));rw [show (1:Int) + (i:Int)= ((1+i:Nat):Int) by omega]at z;have hlen:(Tm.ah t a n gen).length= 64:=Tm.bD _ _ _ _;obtain ⟨d,hd⟩:=eX1 (Tm.ah t a n gen);rw [<-hd]at D r hlen⊢;clear hd;obtain ⟨s,H⟩:=eX1 (1+i);rw [<-H]at z r⊢;have T:=hT (λw1=>eL (.string (Om.B d)) w1);have U:=hT (λw1=>jd (s:Int) w1);obtain ⟨x,v⟩:=eX1 ((Dm.write st (s:Int) d).2);have K:Hid (∀w1,zB w w1->zF 92 #[zP B.d.p,zI s, .string (Om.B d)] w1 λe w'=>e= nf (zI x)/\ai B E E (Dm.write st (s:Int) d).1 w1 w'):=hT λw1 hb=>by have:=ae.fC (h.below hb).dk (s:Int) d (by omega) (by omega) J;rw [<-v]at this;exact this.mono λe w' ⟨e1,e2⟩=>⟨e1,(h.below hb).cP e2 (So.step_ok h.dk.ok (.wr s d)).2⟩
 rw [<-v]at r;subst r;have NE:=hT (λw1=>dv w1);obtain ⟨k,c⟩:=eX2 (w.alloc (hV #[zI t,zI a,zI n,zU gen] 68));obtain ⟨o,y⟩:=kE w _ _ _ _ k c;have V:Hid (¬B.fp E w.heap.size):=hT λe=>TL _ (h.lt _ e);have A:Hid (w.heap.size<k.heap.size):=hT (by rw [<-c];simp);have L:=hT y;have u:Hid (∀w1,zB k w1->zB w w1):=hT λw1 hb=>o.trans (hb.mono o.size);have C:Hid (∀w1,zB w w1->Hd w1 B E):=hT λw1 hb=>h.head.below hb;obtain ⟨b0,b1,b2,b3⟩:=y k zR;obtain ⟨a0,a1,a2,a3,_⟩:=(C.out k o).low;obtain ⟨st',b⟩:=eX1 ((Dm.write st (s:Int) d).1);rw [<-b]at K⊢;unfold Sv at D⊢;obtain ⟨G,hG⟩:=eX1 w.heap.size;clear h J hu b v hlen f I H o y hi;go_enter func90,ntmps90;go_upto_region 1 with fail;clear c;go_region_held3 (λw'=>w'.cell? (zD B.q 0)= some (zI E.a)/\w'.cell? (zD B.q 1)= some (zI E.n)/\w'.cell? (zD B.q 2)= some (zI E.g)/\w'.cell? (zD B.q 3)= some (zP B.d.p)/\ w'.cell? (zz w 0)= some (zI t)/\w'.cell? (zz w 1)= some (zI a)/\w'.cell? (zz w 2)= some (zI n)/\w'.cell? (zz w 3)= some (zU gen)) (first|(refine ⟨?_,?_,?_,?_,?_,?_,?_,?_⟩<;>assumption)|go_keep) (first
  | (go_at_call 105;refine zg (z.out _) λw1 hb=>?_;have F:=hT (Og.dL hb);obtain ⟨t0,t1,t2,t3⟩:=L.out w1 F.out;obtain ⟨u0,u1,u2,u3,_⟩:=(C.out w1 (u.out w1 F.out)).low;clear hb)
  | (go_at_call 104;refine zh (U.out _) ?_)
  | (go_at_call 144;refine zg (D.out _) λw3 hb=>?_;have m:=zT F hb;obtain ⟨R,Q,O,N⟩:=L.out w3 m.out;obtain ⟨v0,v1,v2,v3,_⟩:=(C.out w3 (u.out w3 m.out)).low;clear hb)
  | (go_at_call 93;refine zh (T.out _) ?_)
  | (go_at_call 92;refine zg (K.out _ (u.out _ m.out)) λM hw=>?_;have S:=hT (hw.below (u.out _ m.out));obtain ⟨y0,y1,y2,y3⟩:=hw.low;have l:∀j,M.cell? (zz w j)= _:=hw.box (ti A.out m.out.size) V.out;have Z:=(l 0).trans R;have Y:=(l 1).trans Q;have X:=(l 2).trans O;have W:=(l 3).trans N;clear hw l)
  | (go_at_call 91;refine zh (NE.out _) ?_));go_end0;exact ⟨rfl,S.out⟩
theorem Mh (h:Ek w B E st) (hu:Um.aj (E.a:Int) (E.n:Int) (E.g:Int)) {i:Nat} (hi:i<16) (t a n:Int) (gen:Nat) (f:Tm.bp t a n gen) (K:gen<4294967296) (L:st.P.length<=549755813888) (l:(Dm.write st ((1+i:Nat):Int) (Tm.ah t a n gen)).2≠0): zF 90 #[zP B.q,zI i,Sv t a n gen] w λe w'=>e= aB (Dm.write st ((1+i:Nat):Int) (Tm.ah t a n gen)).2/\ai B E E (Dm.write st ((1+i:Nat):Int) (Tm.ah t a n gen)).1 w w':=by
 have F:=hT (λw1=>qT t a n gen w1 K f);have A:=hT (λw1=>nV (E.a:Int) (E.n:Int) (E.g:Int) (i:Int) w1 hu (by omega) (by omega));rw [show (1:Int) + (i:Int)= ((1+i:Nat):Int) by omega]at A;have hlen:(Tm.ah t a n gen).length= 64:=Tm.bD _ _ _ _;obtain ⟨d,hd⟩:=eX1 (Tm.ah t a n gen);rw [<-hd]at F l hlen⊢;clear hd;obtain ⟨s,J⟩:=eX1 (1+i);rw [<-J]at A l⊢;have U:=hT (λw1=>eL (.string (Om.B d)) w1);have V:=hT (λw1=>jd (s:Int) w1);obtain ⟨x,y⟩:=eX1 ((Dm.write st (s:Int) d).2);have M:Hid (∀w1,zB w w1->zF 92 #[zP B.d.p,zI s, .string (Om.B d)] w1 λe w'=>e= nf (zI x)/\ai B E E (Dm.write st (s:Int) d).1 w1 w'):=hT λw1 hb=>by have:=ae.fC (h.below hb).dk (s:Int) d (by omega) (by omega) L;rw [<-y]at this;exact this.mono λe w' ⟨e1,e2⟩=>⟨e1,(h.below hb).cP e2 (So.step_ok h.dk.ok (.wr s d)).2⟩
 rw [<-y]at l⊢;have NE:=hT (λw1=>dy x l w1);obtain ⟨m,c⟩:=eX2 (w.alloc (hV #[zI t,zI a,zI n,zU gen] 68));obtain ⟨u,z⟩:=kE w _ _ _ _ m c;have W:Hid (¬B.fp E w.heap.size):=hT λe=>TL _ (h.lt _ e);have C:Hid (w.heap.size<m.heap.size):=hT (by rw [<-c];simp);have N:=hT z;have v:Hid (∀w1,zB m w1->zB w w1):=hT λw1 hb=>u.trans (hb.mono u.size);have D:Hid (∀w1,zB w w1->Hd w1 B E):=hT λw1 hb=>h.head.below hb;obtain ⟨b0,b1,b2,b3⟩:=z m zR;obtain ⟨a0,a1,a2,a3,_⟩:=(D.out m u).low;obtain ⟨st',b⟩:=eX1 ((Dm.write st (s:Int) d).1);rw [<-b]at M⊢;unfold Sv at F⊢;obtain ⟨G,hG⟩:=eX1 w.heap.size;clear h L hu b y hlen f K J u z hi l;unfold aB at NE⊢;go_enter func90,ntmps90;go_upto_region 1 with fail;clear c;go_region_held (λw'=>w'.cell? (zD B.q 0)= some (zI E.a)/\w'.cell? (zD B.q 1)= some (zI E.n)/\w'.cell? (zD B.q 2)= some (zI E.g)/\w'.cell? (zD B.q 3)= some (zP B.d.p)/\ w'.cell? (zz w 0)= some (zI t)/\w'.cell? (zz w 1)= some (zI a)/\w'.cell? (zz w 2)= some (zI n)/\w'.cell? (zz w 3)= some (zU gen)) (first|(refine ⟨?_,?_,?_,?_,?_,?_,?_,?_⟩<;>assumption)|go_keep) (first
  | (go_at_call 105;refine zg (A.out _) λw1 hb=>?_;have H:=hT (Og.dL hb);obtain ⟨t0,t1,t2,t3⟩:=N.out w1 H.out;obtain ⟨u0,u1,u2,u3,_⟩:=(D.out w1 (v.out w1 H.out)).low;clear hb)
  | (go_at_call 104;refine zh (V.out _) ?_)
  | (go_at_call 144;refine zg (F.out _) λw3 hb=>?_;have r:=zT H hb;obtain ⟨S,R,Q,O⟩:=N.out w3 r.out;obtain ⟨v0,v1,v2,v3,_⟩:=(D.out w3 (v.out w3 r.out)).low;clear hb)
  | (go_at_call 93;refine zh (U.out _) ?_)
  | (go_at_call 92;refine zg (M.out _ (v.out _ r.out)) λI hw=>?_;have T:=hT (hw.below (v.out _ r.out));obtain ⟨y0,y1,y2,y3⟩:=hw.low;have o:∀j,I.cell? (zz w j)= _:=hw.box (ti C.out r.out.size) W.out;have z0:=(o 0).trans S;have Z:=(o 1).trans R;have Y:=(o 2).trans Q;have X:=(o 3).trans O;clear hw o)
  | (go_at_call 91;refine zh (NE.out _) ?_;refine T7 λhn=>?_;have k:=hn ⟨rfl,rfl,T.out⟩;clear hn;refine So.jg (by assumption) k {tmps:=#[],defers:= []} I ?_));exact k.elim
def dh (i:Nat) (t a n:Int) (gen:Nat):So.Op:= .wr (1+i) (Tm.ah t a n gen)
theorem Mi (h:Ek w B E st) (hu:Um.aj (E.a:Int) (E.n:Int) (E.g:Int)) {i:Nat} (hi:i<16) (t a n:Int) (gen:Nat) (b:Tm.bp t a n gen) (d:gen<4294967296) (f:st.P.length<=549755813888): zF 90 #[zP B.q,zI i,Sv t a n gen] w λe w'=>e= aP (So.step st (dh i t a n gen)).2/\ai B E E (So.step st (dh i t a n gen)).1 w w':=by
 show Calls _ _ _ _ λe w'=>e= aP (Dm.write st ((1+i:Nat):Int) (Tm.ah t a n gen)).2/\ai B E E (Dm.write st ((1+i:Nat):Int) (Tm.ah t a n gen)).1 w w';by_cases c:(Dm.write st ((1+i:Nat):Int) (Tm.ah t a n gen)).2= 0;· rw [c];exact Mg h hu hi t a n gen b d f c
 ·rw [aX c];exact Mh h hu hi t a n gen b d f c
theorem qU (q:Nat):∀(vs:List Value) (o:Nat) (w:World),ae.Fr (λk=>k= q) w (w.setCells q o vs)
 | [],_,w=>ae.Fr.refl _ _
 | v :: r,o,w=>((ae.Fr.refl (λk=>k= q) w).setCell ⟨q,o,none⟩ rfl v).trans (qU q r (o+1) _) λ_ _ e=>e
theorem Ek.block (h:Ek w B E st) (m:ae.Fr (λk=>k= B.q) w w') {ptr:Nat->Value} (u:Hd w' {B with ptr:=ptr} E') (s:E'.S.length= 16) (r:E'.n= E.n) (v:E'.g= E.g) (hp:∀i,i<16->ptr i= if (E'.one i).t= 0 then xb none else xb (some ⟨B.sq i,0,none⟩)) (f:∀i,i<16->(E'.one i).t≠0->(E.one i).t≠0/\E'.pa i= E.pa i/\(E'.one i).M= (E.one i).M): ai B E E' st w w':=by
 have l:∀i,i<16->(E.one i).t≠0->∀k,(B.bk i).fp k->k≠B.q:=λi hi d k hk e=>by
  obtain ⟨p,o,_,_⟩:=h.qs i hi d;subst e;rcases hk with e|hk|hk;· exact p e.symm
  ·exact h.qd hk
  ·exact o hk
 refine ⟨{B with ptr:=ptr},⟨u,s,?_,hp,λi hi d=>?_,λi j hi hj hij h1 h2=>?_,h.qo,h.qd,λi hi d=>h.qs i hi (f i hi d).1⟩,⟨m.mono λk _ e=> .inl e,λk hk=>?_,rfl,rfl,λk hk=> .inl hk⟩⟩;·
  rw [r,v];refine h.aF.keep m λk hk e=>?_;subst e;rcases hk with e|hk;· exact h.qo e
  ·exact h.qd hk
 ·obtain ⟨a,b,c⟩:=f i hi d;rw [b,c];exact (h.sk i hi a).keep m λk hk e=>l i hi a k hk e
 ·exact h.ap i j hi hj hij (f i hi h1).1 (f j hj h2).1
 ·rcases hk with rfl|rfl|hk|⟨i,hi,d,hk⟩;· exact .inl (.inl rfl)
  ·exact .inl (.inr (.inl rfl))
  ·exact .inl (.inr (.inr (.inl hk)))
  ·exact .inl (.inr (.inr (.inr ⟨i,hi,(f i hi d).1,hk⟩)))
def Sn.gone (x:Sn):Sn:={x with t:=0,st:=0,ln:=0}
theorem Ek.gone (h:Ek w B E st) {i:Nat} (hi:i<16): ai B E (E.set i (E.one i).gone) st w ((w.setCells B.q (5+i*4) (bh 4 (dS (E.one i).gone))).setCell ⟨B.q,69+i,none⟩ (xb none)):=by
 have a:i<E.S.length:=by rw [h.len];exact hi
 have one:∀j,(E.set i (E.one i).gone).one j= if i= j then (E.one i).gone else E.one j:=En.one_set a _;have b:ae.Fr (λk=>k= B.q) w ((w.setCells B.q (5+i*4) (bh 4 (dS (E.one i).gone))).setCell ⟨B.q,69+i,none⟩ (xb none)):=(qU B.q _ _ _).setCell _ rfl _;refine h.block (E':=E.set i (E.one i).gone) (ptr:=λj=>if j= i then xb none else B.ptr j) b ((h.head.ll hi h.len (E.one i).gone).mw hi (xb none)) (by rw [En.mv,h.len]) rfl rfl (λj hj=>?_) (λj hj hj0=>?_);·
  rw [one];by_cases e:i= j;· subst e;rw [if_pos rfl,if_pos rfl];exact (if_pos rfl).symm
  ·rw [if_neg e,if_neg (λc=>e c.symm),h.ptr j hj]
 ·rw [one]at hj0⊢;unfold En.pa;rw [one];by_cases e:i= j;· subst e;rw [if_pos rfl]at hj0;exact absurd rfl hj0
  ·rw [if_neg e]at hj0⊢;exact ⟨hj0,rfl,rfl⟩
structure lG (w:World) (B:Eb) (E:En) (b:So.Bk) (p:So.Pa) (inv:Bool) (st:Dm.St) (m:zN):Prop where
 sk:So.Sk w b p inv st m
 d:b.d= B.d
 q:¬B.fp E b.q
 t:∀k,b.t.fp k->¬B.fp E k
theorem lG.step {b:So.Bk} {inv:Bool} (h:lG w B E b p inv st m) (hk:Ek w' B' E' st') (e:br B E B' E' w w'):lG w' B' E' ⟨b.q,B'.d,b.t⟩ p inv st' m:=by
 have f:=h.sk.lt b.q (.inl rfl);have a:∀k,B'.fp E' k->k<w.heap.size->B.fp E k:=λk hk hlt=>(e.fp k hk).elim id λc=>by omega
 refine ⟨⟨?_,hk.dk,h.sk.tm.keep e.fr λk hk hf=>h.t k hk hf,λk hd ht=>?_,λhd=>?_,h.sk.qt⟩,rfl,λhf=>h.q (a _ hf f),λk hk hf=>h.t k hk (a k hf (h.sk.tm.lt k hk))⟩;· show w'.heap[b.q]?= some (hV #[_,_,_,zP B'.d.p,_,_,_,_,_,_,_] _ _);rw [e.fr.block b.q f h.q,h.sk.head,e.dp,<-h.d];rfl
 ·exact h.t k ht (a k (.inr (.inr (.inl hd))) (h.sk.tm.lt k ht))
 ·exact h.q (a _ (.inr (.inr (.inl hd))) f)
theorem Ek.new (h:Ek w B E st) {b:So.Bk} {p:So.Pa} {inv:Bool} {m:zN} (hk:So.Sk w' b p inv st' m) (hp:b.d.p= B.d.p) (l:∀k,b.fp k->B.d.fp k\/w.heap.size<=k) (n:∀k,b.d.fp k->B.d.fp k\/w.heap.size<=k) (t:w.heap.size<=b.q) (a:ae.Fr B.d.fp w w') (r:st'.S.length= st.S.length): ∃B',Ek w' B' E st'/\br B E B' E w w'/\lG w' B' E b p inv st' m:=by
 have o:ae.Step B.d b.d w w':=⟨a,n,hp⟩;obtain ⟨h1,s⟩:=h.iH hk.dk o r;have key:∀k,b.fp k->¬b.d.fp k->¬({B with d:=b.d}:Eb).fp E k:=λk hk0 hd a=>by
  by_cases f:k<w.heap.size;·
   have j:=(l k hk0).elim id λc=>by omega
   rcases a with e|e|a|⟨i,hi,g,a⟩;· exact h.qd (by rw [<-show k= B.q from e];exact j)
   ·exact h.aF.qd (by rw [<-show k= B.oq from e];exact j)
   ·exact hd a
   ·rcases a with e|a|a;· exact (h.sk i hi g).qd (by rw [<-show k= (B.bk i).q from e];exact j)
    ·exact hd a
    ·exact (h.sk i hi g).dt k j a
  ·rcases a with e|e|a|⟨i,hi,g,a⟩;· exact f (h.lt k (.inl e))
   ·exact f (h.lt k (.inr (.inl e)))
   ·exact hd a
   ·rcases a with e|a|a;· exact f (h.lt k (.inr (.inr (.inr ⟨i,hi,g, .inl e⟩))))
    ·exact hd a
    ·exact f (h.lt k (.inr (.inr (.inr ⟨i,hi,g, .inr (.inr a)⟩))))
 exact ⟨_,h1,s,hk,rfl,key _ (.inl rfl) hk.qd,λk ht=>key k (.inr (.inr ht)) λhd=>hk.dt k hd ht⟩
theorem Ek.came {w0:World} {B0:Eb} (h:Ek w B E st) (C:br B0 E B E w0 w) {i:Nat} (hi:i<16) {b:So.Bk} {x:Sn} (R:x.t≠0) (r:lG w B E b ⟨E.a,E.n,E.g,x.st,x.ln,Em.room E.g x.ln,x.gen⟩ x.M.inv st x.M.aK) (T:∀k,b.fp k->B0.fp E k\/w0.heap.size<=k): ai B0 E (E.set i x) st w0 ((w.setCells B.q (5+i*4) (bh 4 (dS x))).setCell ⟨B.q,69+i,none⟩ (zP b.q)):=by
 have I:i<E.S.length:=by rw [h.len];exact hi
 have one:∀j,(E.set i x).one j= if i= j then x else E.one j:=En.one_set I _;obtain ⟨w',z⟩:=eX1 ((w.setCells B.q (5+i*4) (bh 4 (dS x))).setCell ⟨B.q,69+i,none⟩ (zP b.q));have m:ae.Fr (λk=>k= B.q) w w':=by rw [z];exact (qU B.q _ _ _).setCell _ rfl _
 have hH:Hd w' (B.mw i (zP b.q)) (E.set i x):=by rw [z];exact (h.head.ll hi h.len x).mw hi _
 rw [<-z];clear z;have O:∀j,j<16->(E.one j).t≠0->¬(B.bk j).fp b.q:=λj l f hk=>r.q (.inr (.inr (.inr ⟨j,l,f,hk⟩)));have N:∀j,j<16->(E.one j).t≠0->∀k,b.t.fp k->¬(B.bk j).fp k:=λj l f k ht hk=>r.t k ht (.inr (.inr (.inr ⟨j,l,f,hk⟩)));have H:∀j,j<16->(E.one j).t≠0->∀k,(B.bk j).fp k->k≠B.q:=λj l f k hk e=>by
  obtain ⟨Q,P,_,_⟩:=h.qs j l f;subst e;rcases hk with e|hk|hk;· exact Q e.symm
  ·exact h.qd hk
  ·exact P hk
 have F:b.q≠B.q:=λe=>r.q (.inl e);have J:∀k,b.fp k->k≠B.q:=λk hk e=>by
  subst e;rcases hk with e|hk|hk;· exact F e.symm
  ·rw [r.d]at hk;exact h.qd hk
  ·exact r.t _ hk (.inl rfl)
 have U:(⟨b.q,B.d,b.t⟩:So.Bk)= b:=by rw [<-r.d]
 obtain ⟨v,o⟩:∃v:Eb,v= {B with sq:=λj=>if j= i then b.q else B.sq j,sT:=λj=>if j= i then b.t else B.sT j,ptr:=λj=>if j= i then (zP b.q) else B.ptr j}:=⟨_,rfl⟩;have u:∀j,v.bk j= if j= i then b else B.bk j:=λj=>by
  rw [o];unfold Eb.bk;by_cases e:j= i;· subst e;rw [if_pos rfl];show So.Bk.mk (if j= j then b.q else B.sq j) B.d (if j= j then b.t else B.sT j)= b;rw [if_pos rfl,if_pos rfl];exact U
  ·rw [if_neg e];show So.Bk.mk (if j= i then b.q else B.sq j) B.d (if j= i then b.t else B.sT j)= _;rw [if_neg e,if_neg e]
 have p:v.q= B.q:=by rw [o]
 have A:v.oq= B.oq:=by rw [o]
 have s:v.d= B.d:=by rw [o]
 have K:∀j,v.sq j= (v.bk j).q:=λ_=>rfl;have L:∀j,v.sT j= (v.bk j).t:=λ_=>rfl;refine ⟨v,⟨?_,by rw [En.mv,h.len],?_,λj l=>?_,λj l f=>?_,λj k l hk hjk h1 h2=>?_,by rw [p,A];exact h.qo,by rw [p,s];exact h.qd,λj l f=>?_⟩,⟨C.fr.trans m λk hk e=>?_,λk hk=>?_,by rw [p];exact C.q,by rw [s];exact C.dp,λk hk=>C.df k (by rw [<-s];exact hk)⟩⟩;· unfold Hd at hH⊢;rw [p];refine hH.trans ?_;rw [o];rfl
 ·rw [A,s];refine h.aF.keep m λk hk e=>?_;subst e;rcases hk with e|hk;· exact h.qo e
  ·exact h.qd hk
 ·rw [one,o];show (if j= i then _ else B.ptr j)= if (if i= j then x else E.one j).t= 0 then _ else xb (some ⟨if j= i then b.q else B.sq j,0,none⟩);by_cases e:j= i;· rw [if_pos e,if_pos e.symm,if_neg R,if_pos e]
  ·rw [if_neg e,if_neg (λc:i= j=>e c.symm),h.ptr j l,if_neg e]
 ·rw [u];rw [one]at f⊢;unfold En.pa;rw [one];by_cases e:j= i;· rw [if_pos e,if_pos e.symm];exact r.sk.keep m λk hk e=>J k hk e
  ·rw [if_neg (λc=>e c.symm)]at f;rw [if_neg e,if_neg (λc=>e c.symm)];exact (h.sk j l f).keep m λk hk e=>H j l f k hk e
 ·rw [one]at h1 h2;rw [u,u];have key:∀y,y<16->(E.one y).t≠0->So.Aside b (B.bk y):=λy hy hy0=>⟨r.d.symm,λe=>O y hy hy0 (.inl e.symm),λm=>N y hy hy0 _ m (.inl rfl),λm=>O y hy hy0 (.inr (.inr m)),λk hk m=>N y hy hy0 k m (.inr (.inr hk))⟩;by_cases G:j= i;· have D:¬k= i:=λc=>hjk (G.trans c.symm);rw [if_neg (λc=>D c.symm)]at h2;rw [if_pos G,if_neg D];exact key k hk h2
  ·rw [if_neg (λc=>G c.symm)]at h1;by_cases D:k= i;· rw [if_neg G,if_pos D];exact (key j l h1).symm
   ·rw [if_neg (λc=>D c.symm)]at h2;rw [if_neg G,if_neg D];exact h.ap j k l hk hjk h1 h2
 ·rw [one]at f;rw [K,L,u,p,A];by_cases e:j= i;· rw [if_pos e];exact ⟨F,λm=>r.t _ m (.inl rfl),λe=>r.q (.inr (.inl e)),λm=>r.t _ m (.inr (.inl rfl))⟩
  ·rw [if_neg (λc=>e c.symm)]at f;rw [if_neg e];exact h.qs j l f
 ·subst e;rw [C.q];exact .inl rfl
 ·have fW:=C.fp;rcases hk with e|e|hk|⟨j,l,f,hk⟩;· exact fW k (.inl (by rw [<-p];exact e))
  ·exact fW k (.inr (.inl (by rw [<-A];exact e)))
  ·exact fW k (.inr (.inr (.inl (by rw [<-s];exact hk))))
  ·rw [one]at f;rw [u]at hk;by_cases e:j= i;· rw [if_pos e]at hk;exact T k hk
   ·rw [if_neg (λc=>e c.symm)]at f;rw [if_neg e]at hk;exact fW k (.inr (.inr (.inr ⟨j,l,f,hk⟩)))
theorem jE {P:Program} {id:Nat} {Q:Exit->Act->World->Prop} {a:Act} {l:List Oper} (n:Nat) (hm:P.follows .mixedOrders) (hB:Region.lexTailB .any l.toArray n) (h:∀w2,Hid (w2= w.drew)->wpStill P l.toArray w2 (λa'=>wpList P l.toArray Q (l.drop n) a' w2) (l.take n) a):(Code.region id l.toArray true).wp P Q a w:= wp_region_still_tail n hm hB (h w.drew (show _= _ from rfl))
theorem qV {first cap:Array Value} (h:Ek w B E st) (ef:∀args w,(callFunc f args).run prog w= .ok (.enter f args) w) (R:Int->En->Dm.St->Prop) (r:∀W,w.alloc (hV #[zI 0] 38)= W->zB w W->zF f (first ++ cap) W λe w2=>∃x E' st',e= aP x/\R x E' st'/\ai B E E' st' W w2): zF 42 #[.func (.func f) first cap] w λe w'=>∃x E' st',e= nf (zI x)/\R x E' st'/\ai B E E' st' w w':=by
 obtain ⟨W,c⟩:=eX2 (w.alloc (hV #[zI 0] 38));have m:zB w W:=by rw [<-c];exact zA
 have p:W.heap[w.heap.size]?= some (hV #[zI 0] 38 (0,0)):=by rw [<-c];exact heap_alloc_new w _
 have n:W.heap.size= w.heap.size+1:=by rw [<-c];simp
 have j:¬B.fp E w.heap.size:=λe=>TL _ (h.lt _ e);have i:=r W c m;refine (ky (Z:=λx w2=>∃E' st',R x E' st'/\ai B E E' st' W w2) ef ?_ ?_).mono ?_;· rintro x w2 ⟨E',st',_,u,_,o⟩;rw [o.fr.block _ (by omega) j,p]
 ·rw [c];refine i.mono ?_;rintro e w2 ⟨x,E',st',h1,d,s⟩;exact ⟨x,h1,E',st',d,s⟩
 ·rintro e w' ⟨x,w2,rfl,⟨E',st',d,t,g,b⟩,l⟩;refine ⟨x,E',st',rfl,d,?_⟩;have a:=(br.ax m).trans b;refine ⟨t,g.keep l λk hk e=>?_,⟨a.fr.trans l λk h1 d=>by omega,a.fp,a.q,a.dp,a.df⟩⟩;rcases b.fp k hk with h|h;· rw [e]at h;exact j h
  ·omega
def bM (i:Nat) (x:Sn):List So.Op:= [dh i (x.t:Int) (x.st:Int) (x.ln:Int) x.gen, .fl]
def oG (B:Eb) (E:En) (st:Dm.St) (i:Nat) (x:Sn) (w:World) (e:Ending) (w':World):Prop:= e = aP (So.aa st (bM i x)).2 /\ ∃ B' w2, Ek w2 B' E (So.aa st (bM i x)).1 /\ br B E B' E w w2 /\ ((So.aa st (bM i x)).2= 0->w'= w2.setCells B'.q (5+i*4) (bh 4 (dS x)))/\((So.aa st (bM i x)).2≠0->w'= w2)
theorem AJ (h:Ek w B E st) (hu:Um.aj (E.a:Int) (E.n:Int) (E.g:Int)) {i:Nat} (hi:i<16) (id:Int) (hid:id= (i:Int) +1) (x:Sn) (I:Tm.bp (x.t:Int) (x.st:Int) (x.ln:Int) x.gen) (hg:x.gen<4294967296) (hP:st.P.length<=274877906944): zF 115 #[zP B.q,zI id,Sv (x.t:Int) (x.st:Int) (x.ln:Int) x.gen] w (oG B E st i x w):=by
 have ad:lg.wrap (id - 1)= (i:Int):=by rw [rr _ (by omega)];omega
 obtain ⟨U,D⟩:=eX2 (w.alloc (hV #[zI x.t,zI x.st,zI x.ln,zU x.gen] 68));obtain ⟨S,l⟩:=kE w _ _ _ _ U D;have V:=hT S;have HN:Hid (¬B.fp E w.heap.size):=hT λe=>TL _ (h.lt _ e);have G:Hid (w.heap.size<U.heap.size):=hT (by rw [<-D];simp);have T:=hT (Mi (h.below S) hu hi (x.t:Int) (x.st:Int) (x.ln:Int) x.gen I hg (by omega));have hlen:(Tm.ah (x.t:Int) (x.st:Int) (x.ln:Int) x.gen).length= 64:=Tm.bD _ _ _ _;have J:(So.step st (dh i (x.t:Int) (x.st:Int) (x.ln:Int) x.gen)).1.P.length<=1099511627776:=by have:=(Dm.lV h.dk.ok ((1+i:Nat):Int) (Tm.ah (x.t:Int) (x.st:Int) (x.ln:Int) x.gen)).2.2;have e:(So.step st (dh i (x.t:Int) (x.st:Int) (x.ln:Int) x.gen)).1= (Dm.write st ((1+i:Nat):Int) (Tm.ah (x.t:Int) (x.st:Int) (x.ln:Int) x.gen)).1:=rfl;rw [e];rw [hlen]at this;omega
 have W:=hT (λw1 M (hk:Ek w1 M E (So.step st (dh i (x.t:Int) (x.st:Int) (x.ln:Int) x.gen)).1)=>AH hk J);obtain ⟨op,C⟩:=eX1 (dh i (x.t:Int) (x.st:Int) (x.ln:Int) x.gen);have EO:bM i x= [op, .fl]:=by rw [C];rfl
 unfold oG;rw [EO];rw [<-C]at T W;clear EO C hlen J;obtain ⟨b0,b1,b2,b3⟩:=l U zR;have ab:(i:Int) <16:=by omega
 unfold Sv at T⊢;have HX:Hid (bh 4 (dS x)= [zI x.t,zI x.st,zI x.ln,zU x.gen]):=hT (by rw [nR];rfl);clear h hu S l hid I hg hP;go_enter func115,ntmps115;go_wp2_with fail;clear D;refine zg T.out λw1 hw=>?_;have K:=hT (λj=>hw.box G.out HN.out j);obtain ⟨M,v,o⟩:=hw;by_cases F:(So.step st op).2= 0;·
  have L:Hid (So.aa st [op, .fl]= So.aa (So.step st op).1 [.fl]):=hT (So.gq _ F);rw [F,cF];have A:=W.out w1 M v;rw [o.q]at A;have A:=hT A;have s:=hT o;clear v o F;go_wp2_with fail;refine zg A.out λw2 hw=>?_;have z:=hT (λj=>hw.box (k:=w.heap.size) (ti G.out s.out.fr.size) (λhf=>(s.out.fp _ hf).elim HN.out λc=>by have:=G.out;omega) j);obtain ⟨H,f,m⟩:=hw;rw [So.kd]at L;by_cases h1:(So.step (So.step st op).1 .fl).2= 0;·
   rw [h1,cF];have u:H.q= B.q:=by rw [m.q,s.out.q]
   have r:∀j,w2.frozen? (zD B.q j)= false:=λj=>by rw [<-u];exact f.head.ig j
   obtain ⟨R,Q,O,N⟩:=f.head.slot hi;rw [u]at R Q O N;have q0:=((z.out 0).trans (K.out 0)).trans b0;have Z:=((z.out 1).trans (K.out 1)).trans b1;have Y:=((z.out 2).trans (K.out 2)).trans b2;have X:=((z.out 3).trans (K.out 3)).trans b3;have b:Hid (Ek w2.drew H E (So.aa st [op, .fl]).1/\br B E H E w w2.drew/\(So.aa st [op, .fl]).2= 0/\H.q= B.q):=hT (by rw [L.out];exact ⟨f.below zR.drew,(((br.ax V.out).trans s.out).trans m).trans (br.ax zR.drew),h1,u⟩);clear f m h1 b0 b1 b2 b3 u;go_wp2_with fail;refine jE 7 (by kernel_rfl) (by kernel_rfl) ?_;intro w3 d;have l:∀p,w3.cell? p= w2.cell? p:=λp=>by rw [d.out];rfl
   have d0:=(l _).trans R;have d1:=(l _).trans Q;have d2:=(l _).trans O;have d3:=(l _).trans N;have y0:=(l _).trans q0;have y1:=(l _).trans Z;have y2:=(l _).trans Y;have y3:=(l _).trans X;have f0:w3.frozen? ⟨B.q,5+i*4,none⟩= false:=by rw [d.out];exact r _
   have f1:w3.frozen? ⟨B.q,5+i*4+1,none⟩= false:=by rw [d.out];exact r _
   have f2:w3.frozen? ⟨B.q,5+i*4+2,none⟩= false:=by rw [d.out];exact r _
   have f3:w3.frozen? ⟨B.q,5+i*4+3,none⟩= false:=by rw [d.out];exact r _
   clear l R Q O N q0 Z Y X r;simp only [UZ,Tj,U0,TA];repeat still_step
   refine wpStill_nil ?_;go_wp2_with fail;go_end0;obtain ⟨g1,g2,g3,g4⟩:=b.out;refine ⟨by rw [g3];rfl,H,w3,by rw [d.out];exact g1,by rw [d.out];exact g2,λ_=>?_,λc=>absurd g3 c⟩;rw [HX.out,g4];rfl
  ·have b:Hid (aB (So.step (So.step st op).1 .fl).2= aP (So.aa st [op, .fl]).2/\∃B':Eb,∃w3:World,Ek w3 B' E (So.aa st [op, .fl]).1/\br B E B' E w w3/\((So.aa st [op, .fl]).2= 0->w2= w3.setCells B'.q (5+i*4) (bh 4 (dS x)))/\((So.aa st [op, .fl]).2≠0->w2= w3)):=hT (by rw [L.out];exact ⟨(aX h1).symm,H,w2,f,((br.ax V.out).trans s.out).trans m,λc=>absurd c h1,λ_=>rfl⟩);rw [aX h1];clear f m L;generalize (So.step (So.step st op).1 .fl).2= y at b⊢;unfold aB at b⊢;go_wp2;exact ⟨rfl,b.out⟩
 ·have b:Hid (aB (So.step st op).2= aP (So.aa st [op, .fl]).2/\∃B':Eb,∃w3:World,Ek w3 B' E (So.aa st [op, .fl]).1/\br B E B' E w w3/\((So.aa st [op, .fl]).2= 0->w1= w3.setCells B'.q (5+i*4) (bh 4 (dS x)))/\((So.aa st [op, .fl]).2≠0->w1= w3)):=hT (by rw [So.iy _ F];exact ⟨(aX F).symm,M,w1,v,(br.ax V.out).trans o,λc=>absurd c F,λ_=>rfl⟩);rw [aX F];clear v o W;generalize (So.step st op).2= y at b⊢;unfold aB at b⊢;go_wp2;exact ⟨rfl,b.out⟩
theorem Mj (h:Ek w B E st) (hu:Um.aj (E.a:Int) (E.n:Int) (E.g:Int)) {i:Nat} (hi:i<16) (id:Int) (hid:id= (i:Int) +1) (F:(E.one i).gen<4294967296) (v:st.P.length<=274877906944): zF 133 #[zP B.q,zI id,zI 0] w λe w'=>e= aP (So.aa st (bM i (E.one i).gone)).2/\∃E',ai B E E' (So.aa st (bM i (E.one i).gone)).1 w w'/\((So.aa st (bM i (E.one i).gone)).2= 0->E'= E.set i (E.one i).gone):=by
 have D:lg.wrap (id - 1)= (i:Int):=by rw [rr _ (by omega)];omega
 have u:(i:Int) <16:=by omega
 have p:=hT (λw1 (hb:zB w w1)=>AJ (h.below hb) hu hi id hid (E.one i).gone (by show Tm.bp 0 0 0 _= true;rw [Tm.mL];rfl) F v);unfold oG at p;obtain ⟨ops,k⟩:=eX1 (bM i (E.one i).gone);rw [<-k]at p⊢;clear k;obtain ⟨c0,c1,c2,c3⟩:=h.head.slot hi;clear h hu hid v;go_enter func133,ntmps133;go_wp2_with fail;obtain ⟨x,m⟩:=eX2 (w.alloc (hV #[zI 0,zI 0,zI 0,zU ((E.one i).gen:Int)] 68));have t:Hid (zB w x):=hT (by rw [<-m];exact zA);rw [m];clear m;refine (p.out x t.out).mono ?_;rintro e w1 ⟨rfl,z,w2,hk,o,d,l⟩;clear p c0 c1 c2 c3;by_cases j:(So.aa st ops).2= 0;· have b:=d j;have s:=o.q;have hd:=hk.head.ll hi hk.len (E.one i).gone;rw [<-b]at hd;have hp:=hd.ptr hi;have G:=hd.ig (69+i);rw [s]at hp G;have f:Hid ((So.aa st ops).2= 0/\ai B E (E.set i (E.one i).gone) (So.aa st ops).1 w (w1.setCell ⟨B.q,69+i,none⟩ (xb none))):=hT ⟨j,by have:=hk.gone hi;obtain ⟨I,C,A⟩:=this;rw [b,<-s];exact ⟨I,C,((br.ax t.out).trans o).trans A⟩⟩;rw [j,cF];generalize z.ptr i= pv at hp;clear d l hk o hd b s j;go_wp2_with fail;go_end0;exact ⟨by rw [f.out.1];rfl,_,f.out.2,λ_=>rfl⟩
 ·have b:=l j;have f:Hid (aB (So.aa st ops).2= aP (So.aa st ops).2/\∃E',ai B E E' (So.aa st ops).1 w w1/\((So.aa st ops).2= 0->E'= E.set i (E.one i).gone)):=hT ⟨(aX j).symm,E,⟨z,by rw [b];exact hk,by rw [b];exact (br.ax t.out).trans o⟩,λc=>absurd c j⟩;rw [aX j];clear d l hk o b j;obtain ⟨y,r⟩:=eX1 ((So.aa st ops).2);have H:=hT r;rw [<-r];clear r;unfold aB at f⊢;go_wp2;refine ⟨rfl,?_⟩;rw [H.out];exact f.out
theorem oH (w:World) (x y z:Value) (X Y Z:TypeId) (W0:World) (h:((w.alloc (hV #[x] X)).alloc (hV #[y] Y)).alloc (hV #[z] Z)= W0): zB w W0/\∀w',zB W0 w'->w'.cell? (zz w 0)= some x/\w'.cell? (zD (w.heap.size+1) 0)= some y/\w'.cell? (zD (w.heap.size+2) 0)= some z:=by
 obtain ⟨b,c0,c1,c2,a⟩:=So.uD w x y z X Y Z W0 h;refine ⟨b,λw' hb=>⟨?_,?_,?_⟩⟩;· exact (hb.cell (p:=(zz w 0)) (by show w.heap.size<_;omega)).trans c0
 ·exact (hb.cell (p:=(zD (w.heap.size+1) 0)) (by show w.heap.size+1<_;omega)).trans c1
 ·exact (hb.cell (p:=(zD (w.heap.size+2) 0)) (by show w.heap.size+2<_;omega)).trans c2
variable{W:World}{Q:World→Prop}
theorem Ml {q g0 g1 g2:Nat} {t X:Int} (c0:W.cell? (zD g0 0)= some (zP q)) (c1:W.cell? (zD g1 0)= some (zI id)) (c2:W.cell? (zD g2 0)= some (zI t)) (MK:zF 133 #[zP q,zI id,zI t] W λe w'=>e= aP X/\Q w'): zF 132 #[zP g0,zP g1,zP g2] W λe w'=>e= aP X/\Q w':=by
 have MK:=hT MK;by_cases a:X= 0;· subst a;rw [cF]at MK⊢;go_enter func132,ntmps132;go_wp2_with fail;refine zg MK.out λw1 h1=>?_;have H1:=hT h1;clear h1;go_wp2_with fail;go_end0;exact ⟨rfl,H1.out⟩
 ·rw [aX a]at MK⊢;unfold aB at MK⊢;go_enter func132,ntmps132;go_wp2_with fail;refine zg MK.out λw1 h1=>?_;have H1:=hT h1;clear h1;go_wp2;exact ⟨rfl,rfl,H1.out⟩
theorem Mm (h:Ek w B E st) (hu:Um.aj (E.a:Int) (E.n:Int) (E.g:Int)) {i:Nat} (hi:i<16) (id:Int) (hid:id= (i:Int) +1) (u:(E.one i).t≠0) (r:(E.one i).gen<4294967296) (s:st.P.length<=274877906944): zF 66 #[zP B.q,zI id,zI 0] w λe w'=>e= nf (zI (So.aa st (bM i (E.one i).gone)).2)/\∃E',ai B E E' (So.aa st (bM i (E.one i).gone)).1 w w'/\((So.aa st (bM i (E.one i).gone)).2= 0->E'= E.set i (E.one i).gone):=by
 obtain ⟨j,d⟩:=eX2 (((w.alloc (hV #[zP B.q] 40)).alloc (hV #[zI id] 3)).alloc (hV #[zI 0] 63));obtain ⟨f,k⟩:=oH w _ _ _ _ _ _ j d;have b:=h.below f;have p:=mz b.head id;rw [cO.2 ⟨i,hi,hid,u⟩]at p;have o:=hT p;clear p;have AT:Hid (∀W1,zB j W1->zF 42 #[.func (.func 132) #[] #[zP w.heap.size,zP (w.heap.size+1),zP (w.heap.size+2)]] W1 λe w'=>e= nf (zI (So.aa st (bM i (E.one i).gone)).2)/\∃E',ai B E E' (So.aa st (bM i (E.one i).gone)).1 w w'/\((So.aa st (bM i (E.one i).gone)).2= 0->E'= E.set i (E.one i).gone)):=hT λW1 hb1=>by
  refine (qV (b.below hb1) (enters_of func132 (by kernel_rfl) rfl) (first:=#[]) (cap:=#[zP w.heap.size,zP (w.heap.size+1),zP (w.heap.size+2)]) (λx E' st'=>x= (So.aa st (bM i (E.one i).gone)).2/\st'= (So.aa st (bM i (E.one i).gone)).1/\((So.aa st (bM i (E.one i).gone)).2= 0->E'= E.set i (E.one i).gone)) λW hW hb=>?_).mono ?_;· have c:=hb1.trans (hb.mono hb1.size);obtain ⟨c0,c1,c2⟩:=k W c;refine (Ml c0 c1 c2 (Mj (b.below c) hu hi id hid r s)).mono ?_;rintro e w1 ⟨h1,E',m,l⟩;exact ⟨_,E',_,h1,⟨rfl,rfl,l⟩,m⟩
  ·rintro e w' ⟨x,E',st',rfl,⟨rfl,rfl,l⟩,m⟩;exact ⟨rfl,E',m.below (f.trans (hb1.mono f.size)),l⟩
 obtain ⟨c0,c1,c2⟩:=k j zR;generalize (So.aa st (bM i (E.one i).gone)).2= X at AT⊢;clear b k f h hu hid u r s;go_enter func66,ntmps66;go_wp2_with fail;clear d;refine zh o.out ?_;go_wp2_with fail;go_quiet (fail);have AN:=hT (AT.out (j.drewN nq) (So.fc zR nq));go_wp2_with fail;refine zg AN.out λw2 hw=>?_;have v:=hT hw;clear hw;go_wp2_with fail;go_ret;exact ⟨rfl,v.out⟩
theorem Mn (h:Ek w B E st) (hu:Um.aj (E.a:Int) (E.n:Int) (E.g:Int)) (id:Int) (d:∀i,i<16->(E.one i).gen<4294967296) (f:st.P.length<=274877906944): zF 22 #[zP B.q,zI id] w λe w'=> (E.has id= false/\e= nf (zI 161)/\zB w w')\/(E.has id= true/\(E.al:Int)= id/\e= nf (zI 163)/\zB w w')\/ (E.has id= true/\(E.al:Int)≠id/\∃i:Nat,i<16/\id= (i:Int) +1/\e= nf (zI (So.aa st (bM i (E.one i).gone)).2)/\∃E',ai B E E' (So.aa st (bM i (E.one i).gone)).1 w w'/\((So.aa st (bM i (E.one i).gone)).2= 0->E'= E.set i (E.one i).gone)):=by have b:=hT (mz h.head id);cases hh:E.has id with
 | false => rw [hh]at b;clear h hu d f hh;go_enter func22,ntmps22;go_wp2_with fail;refine zh b.out ?_;go_wp2_with fail;go_ret;exact .inl ⟨trivial,rfl,G3 _ _⟩
 | true =>
 rw [hh]at b;have j:=hT (jB h.head);obtain ⟨i,hi,hid,r⟩:=cO.1 hh;have p:Hid (∀w1,zB w w1->_):=hT λw1 (hb:zB w w1)=>Mm (h.below hb) hu hi id hid r (d i hi) f;by_cases hm:(E.al:Int)= id;·
  have d1:((E.al:Int) == id):=by simpa using hm
  have c:=hT hm;generalize (E.al:Int)= m at j d1 c⊢;clear h hu d f hh hm hid p;go_enter func22,ntmps22;go_wp2_with fail;refine zh b.out ?_;go_wp2_with fail;refine zg j.out λw1 hb=>?_;have l:=hT hb;clear hb;go_wp2_with fail;go_ret;exact .inr (.inl ⟨trivial,c.out,rfl,l.out⟩)
 ·have d1:((E.al:Int) == id)= false:=by simpa using hm
  have c:=hT hm;have FI:=hT hid;generalize (E.al:Int)= m at j d1 c⊢;clear h hu d f hh hm hid;go_enter func22,ntmps22;go_wp2_with fail;refine zh b.out ?_;go_wp2_with fail;refine zg j.out λw1 hb=>?_;have l:=hT hb;have k:=hT (p.out w1 hb);clear hb;go_wp2_with fail;refine k.out.mono ?_;rintro e w2 ⟨rfl,E',h1,o⟩;have H1:=hT (ai.below l.out h1);have s:=hT o;clear h1 o;go_wp2_with fail;go_ret;exact .inr (.inr ⟨trivial,c.out,i,hi,FI.out,rfl,E',H1.out,s.out⟩)
theorem MA {q g0 g1:Nat} {c X:Int} (c0:W.cell? (zD g0 0)= some (zP q)) (c1:W.cell? (zD g1 0)= some (zI c)) (MK:zF 75 #[zP q,zI c] W λe w'=>e= aP X/\Q w'): zF 74 #[zP g0,zP g1] W λe w'=>e= aP X/\Q w':=by
 have MK:=hT MK;by_cases a:X= 0;· subst a;rw [cF]at MK⊢;go_enter func74,ntmps74;go_wp2_with fail;refine zg MK.out λw1 h1=>?_;have H1:=hT h1;clear h1;go_wp2_with fail;go_end0;exact ⟨rfl,H1.out⟩
 ·rw [aX a]at MK⊢;unfold aB at MK⊢;go_enter func74,ntmps74;go_wp2_with fail;refine zg MK.out λw1 h1=>?_;have H1:=hT h1;clear h1;go_wp2;exact ⟨rfl,rfl,H1.out⟩
theorem mT {w1:World} (h:Hd w B E) (d:zB w w1):w1.cell? (zD B.q 0)= some (zI E.a)/\w1.cell? (zD B.q 1)= some (zI E.n)/\w1.cell? (zD B.q 2)= some (zI E.g):=by obtain ⟨a,b,c,_,_⟩:=(h.below d).low;exact ⟨a,b,c⟩
theorem MB (h:Ek w B E st) (hu:Um.aj (E.a:Int) (E.n:Int) (E.g:Int)) (c:Int) (z:c<0∨(Em.parts E.n E.g:Int)≤c):
    zF 26 #[zP B.q,zI c] w (zJ (zI 2) w):=by
  have GE:=hT (fun w1=>gC (E.a:Int) (E.n:Int) (E.g:Int) w1 hu)
  have K:=hT (fun w1=>Og.Ln h.aF c z w1)
  obtain ⟨i,m⟩:=eX2 ((w.alloc (hV #[zP B.q] 40)).alloc (hV #[zI c] 3))
  obtain ⟨o,J,b1,v⟩:=So.lD w _ _ _ _ i m
  have F:=hT o
  have x:=hT (fun w1 (l:zB i w1)=>mT h.head (o.trans (l.mono o.size)))
  have D:Hid (∀w1,zB i w1→w1.cell? (zz w 0)= some (zP B.q)∧w1.cell? (zD (w.heap.size+1) 0)= some (zI c)):=hT fun w1 l=>
    ⟨(l.cell (p:=(zz w 0)) (by show w.heap.size<_;omega)).trans J,(l.cell (p:=(zD (w.heap.size+1) 0)) (by show w.heap.size+1<_;omega)).trans b1⟩
  have e:Hid (w.heap.size<i.heap.size):=hT (by omega)
  have d:Hid (w.heap.size+1<i.heap.size):=hT (by omega)
  have b:Hid (B.q<i.heap.size):=hT (by have:=ae.lt_of_heap h.head;omega)
  obtain ⟨V,a1,a2⟩:=x.out i zR
  clear h hu o z v
  go_enter func26,ntmps26
  go_upto_region 3 with fail
  clear m
  go_cut [5,6]from 9 to 18 (fun s5 s6 wx=>(∃A,s5= zP A)∧s6= zI 2∧Hid (zB i wx))
  case first=>
    go_region_held3 (fun w'=>w'.cell? (zz w 0)= some (zP B.q)∧w'.cell? (zD (w.heap.size+1) 0)= some (zI c)∧w'.cell? (zD B.q 0)= some (zI E.a)∧w'.cell? (zD B.q 1)= some (zI E.n)∧w'.cell? (zD B.q 2)= some (zI E.g))
      (first
      | (refine ⟨?_,?_,?_,?_,?_⟩<;>assumption)
      | (refine ⟨?_,?_,?_,?_,?_⟩<;>(first|assumption|(rw [So.aO (w:=k) (ti e.out j.out.size)];assumption)|(rw [So.aO (w:=k) (ti d.out j.out.size)];assumption)|(rw [So.aO (w:=k) (ti b.out j.out.size)];assumption)))
      | (refine ⟨?_,?_,?_,?_,?_⟩<;>(first|assumption|(rw [So.aO (w:=w3) (ti e.out f.out.size)];assumption)|(rw [So.aO (w:=w3) (ti d.out f.out.size)];assumption)|(rw [So.aO (w:=w3) (ti b.out f.out.size)];assumption)))
      | (refine ⟨?_,?_,?_,?_,?_⟩<;>(first|assumption|(rw [So.cw,So.aO (w:=i) e.out];assumption)|(rw [So.cw,So.aO (w:=i) d.out];assumption)|(rw [So.cw,So.aO (w:=i) b.out];assumption)))
      | (refine ⟨?_,?_,?_,?_,?_⟩<;>(first|assumption|(rw [So.cY (g:=k.heap.size) (ti e.out j.out.size),So.aO (w:=k) (ti e.out j.out.size)];assumption)|(rw [So.cY (g:=k.heap.size) (ti d.out j.out.size),So.aO (w:=k) (ti d.out j.out.size)];assumption)|(rw [So.cY (g:=k.heap.size) (ti b.out j.out.size),So.aO (w:=k) (ti b.out j.out.size)];assumption)))
      | (refine ⟨?_,?_,?_,?_,?_⟩<;>(first|assumption|(rw [So.cY (g:=w3.heap.size) (ti e.out f.out.size),So.aO (w:=w3) (ti e.out f.out.size)];assumption)|(rw [So.cY (g:=w3.heap.size) (ti d.out f.out.size),So.aO (w:=w3) (ti d.out f.out.size)];assumption)|(rw [So.cY (g:=w3.heap.size) (ti b.out f.out.size),So.aO (w:=w3) (ti b.out f.out.size)];assumption)))
      | (refine ⟨?_,?_,?_,?_,?_⟩<;>(first|assumption|(rw [So.cY (g:=w3.heap.size) (ti e.out f.out.size)];assumption)|(rw [So.cY (g:=w3.heap.size) (ti d.out f.out.size)];assumption)|(rw [So.cY (g:=w3.heap.size) (ti b.out f.out.size)];assumption)))
      | (refine ⟨?_,?_,?_,?_,?_⟩<;>(first|assumption|(rw [So.cY (g:=i.heap.size) e.out];assumption)|(rw [So.cY (g:=i.heap.size) d.out];assumption)|(rw [So.cY (g:=i.heap.size) b.out];assumption)))
      | go_keep)
      (first
        | (go_at_call 51;refine zg (GE.out _) fun w3 l=>?_;have f:Hid (zB i w3):=hT (So.bT l (by first|exact zR.drew|exact zA.drew));obtain ⟨S,R⟩:=D.out w3 f.out;obtain ⟨Q,P,O⟩:=x.out w3 f.out;first|(have C:=hT (So.mO l);obtain ⟨I,H,G⟩:=bR C.out)|skip)
        | (go_at_call 73;refine zg (K.out _) fun k l=>?_;have j:Hid (zB i k):=hT (So.bT l (by first|exact f.out|exact f.out.alloc f.out.size _));obtain ⟨U,T⟩:=D.out k j.out;obtain ⟨N,M,L⟩:=x.out k j.out;first|(have r:=hT (So.mP l);obtain ⟨u,t,s⟩:=bR r.out)|(have r:=hT (So.mQ l C.out);obtain ⟨u,t,s⟩:=bR r.out)|skip))
    all_goals
      go_wp2_with fail
      go_meet
      first
      | exact ⟨⟨_,rfl⟩,rfl,hT (So.uz j.out r.out (by first|exact nm _|exact f.out.size) _ _).aL⟩
      | exact ⟨⟨_,rfl⟩,rfl,hT (So.uy j.out _ _).aL⟩
      | exact ⟨⟨_,rfl⟩,rfl,hT (So.espot_a j.out _ _ _ _).aL⟩
  case rest=>
  obtain ⟨⟨A,rfl⟩,rfl,y⟩:=hcut
  go_wp2_with fail
  go_ret
  exact ⟨rfl,F.out.trans (y.out.mono F.out.size)⟩
theorem MC (h:Ek w B E st) (hu:Um.aj (E.a:Int) (E.n:Int) (E.g:Int)) {c:Nat} {d:zL} (C:oF E st c d): zF 26 #[zP B.q,zI c] w λe w'=>e= nf (zI (So.aa st (aq E c d 16)).2)/\∃E',ai B E E' (So.aa st (aq E c d 16)).1 w w'/\((So.aa st (aq E c d 16)).2= 0->E'= E.aJ c d 16):=by
 have GE:=hT (λw1=>gC (E.a:Int) (E.n:Int) (E.g:Int) w1 hu);have G:=hT (λw1=>Og.Ak h.aF c C.chunk w1);generalize ((Og.at_ E.g c:Nat):Int)= x1 at G;generalize ((Og.ln E.n E.g c:Nat):Int)= x2 at G;obtain ⟨k,t⟩:=eX2 ((w.alloc (hV #[zP B.q] 40)).alloc (hV #[zI c] 3));obtain ⟨r,P,b1,A⟩:=So.lD w _ _ _ _ k t;have H:=hT (λw1 (m:zB k w1)=>mT h.head (r.trans (m.mono r.size)));have I:Hid (∀w1,zB k w1->w1.cell? (zz w 0)= some (zP B.q)/\w1.cell? (zD (w.heap.size+1) 0)= some (zI c)):=hT λw1 m=> ⟨(m.cell (p:=(zz w 0)) (by show w.heap.size<_;omega)).trans P,(m.cell (p:=(zD (w.heap.size+1) 0)) (by show w.heap.size+1<_;omega)).trans b1⟩;have i:Hid (w.heap.size<k.heap.size):=hT (by omega);have f:Hid (w.heap.size+1<k.heap.size):=hT (by omega);have b:Hid (B.q<k.heap.size):=hT (by have:=ae.lt_of_heap h.head;omega);obtain ⟨a0,a1,a2⟩:=H.out k zR;have AT:Hid (∀W1,zB k W1->zF 42 #[.func (.func 74) #[] #[zP w.heap.size,zP (w.heap.size+1)]] W1 λe w'=>e= nf (zI (So.aa st (aq E c d 16)).2)/\∃E',ai B E E' (So.aa st (aq E c d 16)).1 w w'/\((So.aa st (aq E c d 16)).2= 0->E'= E.aJ c d 16)):=hT λW1 hb1=>by
  refine (qV (h.below (r.trans (hb1.mono r.size))) (enters_of func74 (by kernel_rfl) rfl) (first:=#[]) (cap:=#[zP w.heap.size,zP (w.heap.size+1)]) (λx E' st'=>x= (So.aa st (aq E c d 16)).2/\st'= (So.aa st (aq E c d 16)).1/\((So.aa st (aq E c d 16)).2= 0->E'= E.aJ c d 16)) λW hW m=>?_).mono ?_;· have s:=hb1.trans (m.mono hb1.size);obtain ⟨c0,c1⟩:=I.out W s;refine (MA c0 c1 (Ap (h.below (r.trans (s.mono r.size))) C)).mono ?_;rintro e w1 ⟨h1,E',F,D⟩;exact ⟨_,E',_,h1,⟨rfl,rfl,D⟩,F⟩
  ·rintro e w' ⟨x,E',st',rfl,⟨rfl,rfl,D⟩,F⟩;exact ⟨rfl,E',F.below (r.trans (hb1.mono r.size)),D⟩
 generalize (So.aa st (aq E c d 16)).2= X at AT⊢;clear h hu r C A;go_enter func26,ntmps26;go_upto_region 3 with fail;clear t;go_cut [5,6]from 9 to 18 (λs5 s6 wx=>(∃K,s5= zP K)/\s6= zI 0/\Hid (zB k wx));case first=> go_region_held3 (λw'=>w'.cell? (zz w 0)= some (zP B.q)/\w'.cell? (zD (w.heap.size+1) 0)= some (zI c)/\w'.cell? (zD B.q 0)= some (zI E.a)/\w'.cell? (zD B.q 1)= some (zI E.n)/\w'.cell? (zD B.q 2)= some (zI E.g)) (first
  | (refine ⟨?_,?_,?_,?_,?_⟩<;>assumption)
  | (refine ⟨?_,?_,?_,?_,?_⟩<;>(first|assumption|(rw [So.aO (w:=o) (ti i.out l.out.size)];assumption)|(rw [So.aO (w:=o) (ti f.out l.out.size)];assumption)|(rw [So.aO (w:=o) (ti b.out l.out.size)];assumption)))
  | (refine ⟨?_,?_,?_,?_,?_⟩<;>(first|assumption|(rw [So.aO (w:=w3) (ti i.out j.out.size)];assumption)|(rw [So.aO (w:=w3) (ti f.out j.out.size)];assumption)|(rw [So.aO (w:=w3) (ti b.out j.out.size)];assumption)))
  | (refine ⟨?_,?_,?_,?_,?_⟩<;>(first|assumption|(rw [So.cw,So.aO (w:=k) i.out];assumption)|(rw [So.cw,So.aO (w:=k) f.out];assumption)|(rw [So.cw,So.aO (w:=k) b.out];assumption)))
  | (refine ⟨?_,?_,?_,?_,?_⟩<;>(first|assumption|(rw [So.cY (g:=o.heap.size) (ti i.out l.out.size),So.aO (w:=o) (ti i.out l.out.size)];assumption)|(rw [So.cY (g:=o.heap.size) (ti f.out l.out.size),So.aO (w:=o) (ti f.out l.out.size)];assumption)|(rw [So.cY (g:=o.heap.size) (ti b.out l.out.size),So.aO (w:=o) (ti b.out l.out.size)];assumption)))
  | (refine ⟨?_,?_,?_,?_,?_⟩<;>(first|assumption|(rw [So.cY (g:=w3.heap.size) (ti i.out j.out.size),So.aO (w:=w3) (ti i.out j.out.size)];assumption)|(rw [So.cY (g:=w3.heap.size) (ti f.out j.out.size),So.aO (w:=w3) (ti f.out j.out.size)];assumption)|(rw [So.cY (g:=w3.heap.size) (ti b.out j.out.size),So.aO (w:=w3) (ti b.out j.out.size)];assumption)))
  | (refine ⟨?_,?_,?_,?_,?_⟩<;>(first|assumption|(rw [So.cY (g:=w3.heap.size) (ti i.out j.out.size)];assumption)|(rw [So.cY (g:=w3.heap.size) (ti f.out j.out.size)];assumption)|(rw [So.cY (g:=w3.heap.size) (ti b.out j.out.size)];assumption)))
  | (refine ⟨?_,?_,?_,?_,?_⟩<;>(first|assumption|(rw [So.cY (g:=k.heap.size) i.out];assumption)|(rw [So.cY (g:=k.heap.size) f.out];assumption)|(rw [So.cY (g:=k.heap.size) b.out];assumption)))
  | go_keep) (first
  | (go_at_call 51;refine zg (GE.out _) λw3 m=>?_;have j:Hid (zB k w3):=hT (So.bT m (by first|exact zR.drew|exact zA.drew));obtain ⟨t0,Z⟩:=I.out w3 j.out;obtain ⟨Y,V,U⟩:=H.out w3 j.out;first|(have L:=hT (So.mO m);obtain ⟨O,N,M⟩:=bR L.out)|skip)
  | (go_at_call 73;refine zg (G.out _) λo m=>?_;have l:Hid (zB k o):=hT (So.bT m (by first|exact j.out|exact j.out.alloc j.out.size _));obtain ⟨p0,p1⟩:=I.out o l.out;obtain ⟨T,S,R⟩:=H.out o l.out;first|(have u:=hT (So.mP m);obtain ⟨z,y,v⟩:=bR u.out)|(have u:=hT (So.mQ m L.out);obtain ⟨z,y,v⟩:=bR u.out)|skip));all_goals go_wp2_with fail;go_meet;first
  | exact ⟨⟨_,rfl⟩,rfl,hT (So.uz l.out u.out (by first|exact nm _|exact j.out.size) _ _).aL⟩
  | exact ⟨⟨_,rfl⟩,rfl,hT (So.uy l.out _ _).aL⟩
  | exact ⟨⟨_,rfl⟩,rfl,hT (So.espot_a l.out _ _ _ _).aL⟩
 case rest=> obtain ⟨⟨K,rfl⟩,rfl,J⟩:=hcut;have AN:=hT (AT.out _ J.out);go_wp2_with fail;refine zg AN.out λw2 hw=>?_;have Q:=hT hw;clear hw;go_wp2_with fail;go_ret;exact ⟨rfl,Q.out⟩
structure Good (E:En) (st:Dm.St):Prop where
 aj:Um.aj (E.a:Int) (E.n:Int) (E.g:Int)= true
 len:E.S.length= 16
 ok:∀i,i<16->(E.one i).t≠0->(E.pa i).Ok
 fit:∀i,i<16->(E.one i).t≠0->So.Fit (E.pa i) (E.one i).M
 gen:∀i,i<16->(E.one i).gen<4294967296
 dE:st.dead= false
 dK:st.S.length= E.a
 bQ:st.P.length<=68719476736
theorem MD (h:Ek w B E st) (a:Good E st) (id:Int) (x:Em.Pc) (d:fJ E x): zF 58 #[zP B.q,zI id, zO x.c x.f x.n] w (zJ (.string (Om.B (fm E st id x))) w):=by have g:=a.bQ;cases he:E.dO id x.c with
 | none=>exact LD h a.aj id x d a.dE (by omega) he
 | some i => unfold En.dO at he;cases hh:E.has (E.aW id) with
 | false=>rw [hh]at he;cases he
 | true => rw [hh,if_pos rfl]at he;obtain ⟨k,hk,e,b⟩:=cO.1 hh;rw [show (E.aW id - 1).toNat= k by omega]at he;exact LG h id x d a.dE a.dK (by omega) hk e b (a.ok k hk b) (a.fit k hk b) he
def eQ (E:En) (st:Dm.St) (id:Int) (ps:List Em.Pc) (k:Nat):zL:=(ps.take k).flatMap (fm E st id)
variable{ps:List Em.Pc}
theorem AR (hk:k<ps.length):eQ E st id ps (k+1)= eQ E st id ps k ++ fm E st id ps[k]:=by unfold eQ;rw [TD hk,List.flatMap_append];simp
structure AS (w:World) (ps:List Em.Pc) (v:Value) (lim:Nat):Prop where
 row:∃p g c,v= .slice p ps.length c/\(ps≠ []->p= some ⟨g,0,none⟩/\g<lim)/\∀i (hi:i<ps.length),w.cell? ⟨g,i*3,none⟩= some (zI (ps[i].c:Int))/\w.cell? ⟨g,i*3+1,none⟩= some (zI (ps[i].f:Int))/\w.cell? ⟨g,i*3+2,none⟩= some (zI (ps[i].n:Int))
theorem MJ (h:Ek W B E st) (M:Good E st) (id:Int) {ps:List Em.Pc} (o:∀x∈ps,fJ E x) {v:Value} {g0 gb g1 g2:Nat} (L:AS W ps v gb) (hl:ps.length<=1048576) (l0:g0<gb) (l1:g1<gb) (l2:g2<gb) (le:∀k,B.fp E k->k<gb) (c0:W.cell? (zD g0 0)= some v) (c1:W.cell? (zD g1 0)= some (zP B.q)) (c2:W.cell? (zD g2 0)= some (zI id)) (g:dU gb gb [] W) (l:∀k,k<=ps.length->(eQ E st id ps k).length<=70368744177664): zF 56 #[zP g0,zP gb,zP g1,zP g2] W λe w'=>e= aP 0/\dU gb gb (eQ E st id ps ps.length) w'/\Below gb W w'/\eO gb W w':=by
 obtain ⟨p,m,cp,rfl,r,s⟩:=L.row;have Z:Hid (∀wr,Below gb W wr->Ek wr B E st):=hT λwr g=>h.same λk hk=>g.block k (le k hk);have HG:=hT M;have HB:=hT g;have U:=g.lt;have H:Hid (gb<=W.heap.size):=hT (by omega);have J:Hid (∀wr,Below gb W wr->∀i (hi:i<ps.length),p= some ⟨m,0,none⟩/\wr.cell? ⟨m,i*3,none⟩= some (zI (ps[i].c:Int))/\wr.cell? ⟨m,i*3+1,none⟩= some (zI (ps[i].f:Int))/\wr.cell? ⟨m,i*3+2,none⟩= some (zI (ps[i].n:Int))):=hT λwr g i hi=>by obtain ⟨e,d⟩:=r (λc=>by rw [c]at hi;simp at hi);obtain ⟨a,b,c⟩:=s i hi;exact ⟨e,(g.cell (p:=⟨m,i*3,none⟩) d).trans a,(g.cell (p:=⟨m,i*3+1,none⟩) d).trans b,(g.cell (p:=⟨m,i*3+2,none⟩) d).trans c⟩
 have P:Hid (∀wr,Below gb W wr->wr.cell? (zD g1 0)= some (zP B.q)/\wr.cell? (zD g2 0)= some (zI id)):=hT λwr g=>⟨(g.cell (p:=(zD g1 0)) l1).trans c1,(g.cell (p:=(zD g2 0)) l2).trans c2⟩;have Y:=hT l;have I:=hT o;rw [cF];clear h M o L le l r s g c1 c2;go_enter func56,ntmps56;go_wp2_with fail;go_loopw [8] (λi wr=>∃k:Nat,i= zI k/\k<=ps.length/\Hid (dU gb gb (eQ E st id ps k) wr/\Below gb W wr/\eO gb W wr)) (λi _=>ps.length - (wo i).toNat);case atStart=>exact ⟨0,rfl,yb _,hT ⟨HB.out,G3 _ _,eO.refl _ _⟩⟩
 case round=>
  obtain ⟨k,rfl,hk,hw⟩:=hrel;by_cases d:k<ps.length;·
   have d1:decide ((k:Int) < (ps.length:Int)):=by simp;omega
   have C:decide (k<ps.length):=by simp;omega
   have T:lg.wrap ((k:Int) +1)= ((k+1:Nat):Int):=by rw [rr _ (by omega)];rfl
   obtain ⟨rfl,S,R,Q⟩:=J.out wr hw.out.2.1 k d;obtain ⟨q1,q2⟩:=P.out wr hw.out.2.1;have w:Hid (∀w1,zB wr w1->zF 58 #[zP B.q,zI id, zO (ps[k].c:Int) (ps[k].f:Int) (ps[k].n:Int)] w1 λe w'=>e= nf (.string (Om.B (fm E st id ps[k])))/\zB w1 w'):=hT λw1 g=>MD ((Z.out wr hw.out.2.1).below g) HG.out id _ (I.out _ (List.getElem_mem d));have G:=hT (AR (E:=E) (st:=st) (id:=id) d);have y:=hT (by have:=Y.out (k+1) d;rw [G.out,DC]at this;exact this);generalize fm E st id ps[k]= D at w G y;generalize (ps[k].c:Int)= x0 at S w;generalize (ps[k].f:Int)= x1 at R w;generalize (ps[k].n:Int)= x2 at Q w;obtain ⟨z,u⟩:=eX2 (wr.alloc (zK x0 x1 x2 107));obtain ⟨j,t⟩:=jO wr _ _ _ z u;obtain ⟨y0,y1,y2⟩:=t z zR;have K:=hT j;have F:=hT (w.out z j);obtain ⟨z1,z2⟩:=P.out z (hw.out.2.1.trans (j.mono (A6 H.out hw.out.2.1.size)));clear j t;go_wp2_with fail;clear u;refine zg F.out λw2 hb2=>?_;have A:=zT K hb2;have V:=hT (My gb gb (eQ E st id ps k) D w2 (hw.out.1.below A.out) (by have:=y.out;omega) (A6 (A6 H.out hw.out.2.1.size) A.out.size));clear hb2;go_wp2_with fail;refine V.out.mono ?_;rintro e w3 ⟨rfl,h1,O,N⟩;have X:Hid (dU gb gb (eQ E st id ps (k+1)) w3/\Below gb W w3/\eO gb W w3):=hT ⟨by rw [G.out];exact h1,(hw.out.2.1.trans (A.out.mono (A6 H.out hw.out.2.1.size))).trans O,(hw.out.2.2.trans (eO.ax A.out)).trans N⟩;clear h1 O N;go_wp2_with fail;go_roundw;case rel=>exact ⟨k+1,by go_num,by omega,X⟩
   case measure=>simp [wo];omega
  ·have d1:decide ((k:Int) < (ps.length:Int))= false:=by simp;omega
   have C:decide (k<ps.length)= false:=by simp;omega
   have e:k= ps.length:=by omega
   subst e;go_wp2_with fail;go_end0;exact ⟨rfl,hw.out⟩
theorem MN {a m:Nat} (f:1<=E.g) (h:a+m<=E.n):∀x∈Em.split E.g a m,fJ E x:=λx hx=>by
 obtain ⟨i,hi⟩:=List.getElem?_of_mem hx;obtain ⟨t,_,e,d,k,b,_⟩:=Em.rW (c:=E.g) (by omega) m a (a+m) (by omega) (by omega) i x hi;have h1:=Uf t E.g;have j:=Tu t (show E.g>0 by omega);refine ⟨?_,?_⟩;· rw [e,d,b,SH];omega
 ·rw [d,b];omega
theorem MO (h:Ek w B E st) (id a m:Int) (g:E.refuse id≠0): zF 18 #[zP B.q,zI id,zI a,zI m] w λe w'=>e= zV (.string (Om.B [])) (zI (E.refuse id))/\zB w w':=by
 obtain ⟨k,b⟩:=eX2 ((w.alloc (hV #[zP B.q] 40)).alloc (hV #[zI id] 3));obtain ⟨d,l,b1,c⟩:=So.lD w _ _ _ _ k b;have j:=hT d;have i:=hT (lB (h.below d) id);have d1:(E.refuse id != 0):=by simpa using g
 generalize E.refuse id= x at i d1⊢;clear h d c g;go_enter func18,ntmps18;go_wp2_with fail;clear b;refine zg i.out λw1 hb=>?_;have f:=hT hb;clear hb;go_wp2_with fail;go_ret2;exact ⟨rfl,j.out.trans (f.out.mono j.out.size)⟩
theorem MP (h:Ek w B E st) (hu:Um.aj (E.a:Int) (E.n:Int) (E.g:Int)) (id a m:Int) (t:E.refuse id= 0) (hm: -9223372036854775808<=m) (s:¬(0<=m/\m<=(E.n:Int)/\0<=a/\a<=(E.n:Int) - m)): zF 18 #[zP B.q,zI id,zI a,zI m] w λe w'=>e= zV (.string (Om.B [])) (zI 2)/\zB w w':=by
 obtain ⟨n1,x,g1,g2⟩:=h.aF.small;have GE:=hT (λw1=>gC (E.a:Int) (E.n:Int) (E.g:Int) w1 hu);have k:Geo.fK (E.n:Int) (E.g:Int) a m= 2:=by
  rcases Geo.qW (c:=(E.g:Int)) (a:=a) (m:=m) h.aF.right with ⟨_,c⟩|⟨c,_⟩;· exact absurd ⟨c.1,c.2.1,c.2.2.1,c.2.2.2⟩ s
  ·exact c
 have y:=hT λw1=>by have:=Geo.AM (E.n:Int) (E.g:Int) a m w1 (by omega) hm (by rw [k];decide);rw [k]at this;exact this
 obtain ⟨l,b⟩:=eX2 ((w.alloc (hV #[zP B.q] 40)).alloc (hV #[zI id] 3));obtain ⟨d,u,b1,j⟩:=So.lD w _ _ _ _ l b;have v:=hT d;have i:=lB (h.below d) id;rw [t]at i;have i:=hT i;have z:=hT (λw1 (hb:zB l w1)=>mT h.head (d.trans (hb.mono d.size)));have A:Hid (∀w1,zB l w1->w1.cell? (zz w 0)= some (zP B.q)/\w1.cell? (zD (w.heap.size+1) 0)= some (zI id)):=hT λw1 hb=> ⟨(hb.cell (p:=(zz w 0)) (by show w.heap.size<_;omega)).trans u,(hb.cell (p:=(zD (w.heap.size+1) 0)) (by show w.heap.size+1<_;omega)).trans b1⟩;clear h d j t hu hm s k n1 x g1 g2;go_enter func18,ntmps18;go_wp2_with fail;clear b;refine zg i.out λw1 hb=>?_;have r:=hT hb;obtain ⟨H,G,F⟩:=z.out w1 hb;obtain ⟨D,C⟩:=A.out w1 hb;clear hb u b1;go_wp2_with fail;refine zg (GE.out _) λw2 hb=>?_;have o:=zT r hb;clear hb;go_wp2_with fail;refine zg (y.out _) λw3 hb=>?_;have f:=zT o hb;clear hb;go_wp2_with fail;go_ret2;exact ⟨rfl,v.out.trans ((f.out.alloc f.out.size _).mono v.out.size)⟩
theorem MQ (h:Ek w B E st) (S:Good E st) (id:Int) (a m:Nat) (h0:E.refuse id= 0) (z:a+m≤E.n) (s:∀k,k≤(Em.split E.g a m).length→(eQ E st id (Em.split E.g a m) k).length≤70368744177664):
    zF 18 #[zP B.q,zI id,zI a,zI m] w fun e w'=>e= zV (.string (Om.B (eQ E st id (Em.split E.g a m) (Em.split E.g a m).length))) (zI 0)∧zB w w':=by
  obtain ⟨n1,n2,g1,g2⟩:=h.aF.small
  have GE:=hT (fun w1=>gC (E.a:Int) (E.n:Int) (E.g:Int) w1 S.aj)
  have SP:=hT (fun w1=>Geo.AO E.n E.g a m w1 h.aF.right z)
  have N:=hT (MN (E:=E) (a:=a) (m:=m) g1 z)
  have M:=hT (A6 (Em.kM E.g a m) (show m≤1048576 by omega))
  have t:=hT s
  obtain ⟨ps,F⟩:=eX1 (Em.split E.g a m)
  rw [←F]at SP N M t⊢
  have HK:=hT h
  have HG:=hT S
  obtain ⟨P,J⟩:=eX2 ((w.alloc (hV #[zP B.q] 40)).alloc (hV #[zI id] 3))
  obtain ⟨K,b0,b1,y⟩:=So.lD w _ _ _ _ P J
  have u:=hT K
  have Q:=lB (h.below K) id
  rw [h0]at Q
  have Q:=hT Q
  have HH:=hT (fun w1 (b:zB P w1)=>mT h.head (K.trans (b.mono K.size)))
  have ab:=hT y
  have HC:Hid (∀w1,zB P w1→w1.cell? (zz w 0)= some (zP B.q)∧w1.cell? (zD (w.heap.size+1) 0)= some (zI id)):=hT fun w1 b=>
    ⟨(b.cell (p:=(zz w 0)) (by show w.heap.size<_;omega)).trans b0,(b.cell (p:=(zD (w.heap.size+1) 0)) (by show w.heap.size+1<_;omega)).trans b1⟩
  clear h K y h0 S z n1 n2 g1 g2 F s
  go_enter func18,ntmps18
  go_wp2_with fail
  clear J
  refine zg Q.out fun w1 b=>?_
  have bb:=hT b
  obtain ⟨u0,u1,u2⟩:=HH.out w1 b
  obtain ⟨v0,v1⟩:=HC.out w1 b
  clear b b0 b1
  go_wp2_with fail
  refine zg (GE.out _) fun w2 b=>?_
  have ba:=zT bb b
  clear b
  go_wp2_with fail
  refine (SP.out _).mono ?_
  rintro e w3 ⟨v,rfl,r,b⟩
  have l:=zT ba b
  obtain ⟨p,gp,o,rfl,A,G⟩:=Geo.AQ r
  have ad:Hid (AS w3 ps (.slice p ps.length o) w3.heap.size):=hT ⟨p,gp,o,rfl,fun c=>⟨(A c).1,(A c).2.2⟩,G⟩
  clear b r A G
  obtain ⟨j,I⟩:=eX2 ((w3.alloc (hV #[.slice p ps.length o] 100)).alloc (hV #[xb none, .slice none 0 0] 111))
  have L:Hid (zB P j∧zB w3 j∧j.heap.size= w3.heap.size+2∧j.cell? (zz w3 0)= some (.slice p ps.length o)∧dU (w3.heap.size+1) (w3.heap.size+1) [] j):=hT (by
    subst I
    have R:(w3.alloc (hV #[.slice p ps.length o] 100)).heap.size= w3.heap.size+1:=by simp
    have U:zB w3 (w3.alloc (hV #[.slice p ps.length o] 100)):=(G3 _ w3).alloc (nm _) _
    have H:Below (w3.heap.size+1) (w3.alloc (hV #[.slice p ps.length o] 100)) ((w3.alloc (hV #[.slice p ps.length o] 100)).alloc (hV #[xb none, .slice none 0 0] 111)):=zR.alloc (by omega) _
    have d:=U.trans (H.mono (by omega))
    refine ⟨zH l d,d,by simp,?_,?_⟩
    · exact (H.cell (p:=(zz w3 0)) (by show w3.heap.size<_;omega)).trans (by rw [cell_of_row _ _ _ _ _ _ (heap_alloc_new w3 _)];rfl)
    · have:=gw.new (w3.alloc (hV #[.slice p ps.length o] 100)) (w3.heap.size+1) (by omega)
      rw [R]at this
      exact dU.of this)
  have AT:Hid (zF 42 #[.func (.func 56) #[] #[zP w3.heap.size,zP (w3.heap.size+1),zP w.heap.size,zP (w.heap.size+1)]] j fun e w'=>e= nf (zI 0)∧dU (w3.heap.size+1) (w3.heap.size+1) (eQ E st id ps ps.length) w'∧Below (w3.heap.size+1) j w'):=hT (by
    obtain ⟨k1,k2,k3,k4,k5⟩:=L.out
    obtain ⟨W,V⟩:=eX2 (j.alloc (hV #[zI 0] 38))
    have b:zB j W:=by rw [←V];exact zA
    have hr:W.heap[j.heap.size]?= some (hV #[zI 0] 38 (0,0)):=by rw [←V];exact heap_alloc_new j _
    have d:=k2.trans (b.mono k2.size)
    have X:=l.out.size
    have T:=(u.out.trans (l.out.mono u.out.size)).trans (d.mono (A6 u.out.size X))
    obtain ⟨v0,v1⟩:=HC.out W (k1.trans (b.mono k1.size))
    have y:=ab.out
    refine (ky (Z:=fun x w2=>x= 0∧dU (w3.heap.size+1) (w3.heap.size+1) (eQ E st id ps ps.length) w2∧Below (w3.heap.size+1) W w2∧eO (w3.heap.size+1) W w2) (enters_of func56 (by kernel_rfl) rfl) ?_ ?_).mono ?_
    · rintro x w2 ⟨_,_,_,z⟩
      exact z.row hr (by omega) (by decide)
    · rw [V]
      refine (MJ (HK.out.below T) HG.out id N.out (v:= .slice p ps.length o) (g0:=w3.heap.size) (gb:=w3.heap.size+1) (g1:=w.heap.size) (g2:=w.heap.size+1) ?_ M.out (by omega) (by omega) (by omega) (fun k hk=>by have:=HK.out.lt k hk;have:=u.out.size;omega) ((b.cell (p:=(zz w3 0)) (by show w3.heap.size<_;omega)).trans k4) v0 v1 (k5.below b) t.out).mono ?_
      · obtain ⟨p',O,c',e1,h1,f⟩:=ad.out
        refine ⟨p',O,c',e1,fun c=>⟨(h1 c).1,Nat.lt_succ_of_lt (h1 c).2⟩,fun i hi=>?_⟩
        have C:=(h1 (fun c=>by rw [c]at hi;simp at hi)).2
        obtain ⟨x0,x1,x2⟩:=f i hi
        exact ⟨(d.cell (p:=⟨O,i*3,none⟩) C).trans x0,(d.cell (p:=⟨O,i*3+1,none⟩) C).trans x1,(d.cell (p:=⟨O,i*3+2,none⟩) C).trans x2⟩
      · rintro e w2 ⟨rfl,h1,f,h3⟩
        exact ⟨0,rfl,rfl,h1,f,h3⟩
    · rintro e w' ⟨x,w2,rfl,⟨rfl,h1,f,z⟩,D⟩
      refine ⟨rfl,?_,(b.mono (by omega)).trans ⟨by rw [D.os,f.os],by rw [D.tape,f.tape],by rw [D.output,f.output],A6 f.size D.size,fun k hk=>?_⟩⟩
      · exact h1.other D (z.row hr (by omega) (by decide)) (by decide) (by omega)
      · rw [D.block k (by have:=f.size;have:=b.size;omega) (by omega)]
        exact f.block k hk)
  have af:=hT (u.out.trans (L.out.1.mono u.out.size))
  go_wp2_with fail
  clear I
  refine AT.out.mono ?_
  rintro e w5 ⟨rfl,h1,f⟩
  have Y:=hT (Mz _ _ _ w5 h1 (by have:=h1.lt;omega))
  have aw:=hT (af.out.trans (f.mono (by have:=u.out.size;have:=l.out.size;omega)))
  clear h1 f
  go_wp2_with fail
  refine Y.out.mono ?_
  rintro e w6 ⟨rfl,h1,_⟩
  have ao:=hT (aw.out.trans (h1.mono (by have:=u.out.size;have:=l.out.size;omega)))
  clear h1
  go_wp2_with fail
  go_ret2
  exact ⟨rfl,ao.out⟩
structure Wr where
 E:En
 st:Dm.St
 x:Int
def aE (E:En) (st:Dm.St) (c:Nat):zL:=Og.cS E.n E.g st c
def jR (E:En) (x:Em.Pc) (D:zL):So.Op:= .wr (17+ (x.c*E.g+x.f)) D
def cj (E:En) (st:Dm.St) (id:Int) (x:Em.Pc) (D:zL):Wr:= match E.dO id x.c with
 | some i=>⟨E.set (E.aW id - 1).toNat {E.one (E.aW id - 1).toNat with M:=(E.one (E.aW id - 1).toNat).M.eJ i x.f D},(So.aa st [So.cV (E.pa (E.aW id - 1).toNat) i x.f D]).1,(So.aa st [So.cV (E.pa (E.aW id - 1).toNat) i x.f D]).2⟩
 | none => if id= 0 then ⟨E.aJ x.c (aE E st x.c) 16,(So.aa st (aq E x.c (aE E st x.c) 16 ++ [jR E x D])).1,(So.aa st (aq E x.c (aE E st x.c) 16 ++ [jR E x D])).2⟩ else if So.free (E.one (id - 1).toNat).M.T= 0 then ⟨E.set (id - 1).toNat {E.one (id - 1).toNat with M:=(E.one (id - 1).toNat).M.eh},(So.aa st (So.bY (E.pa (id - 1).toNat))).1,if (So.aa st (So.bY (E.pa (id - 1).toNat))).2= 0 then 162 else (So.aa st (So.bY (E.pa (id - 1).toNat))).2⟩ else ⟨E.set (id - 1).toNat {E.one (id - 1).toNat with M:=(E.one (id - 1).toNat).M.du [((x.c:Int),So.splice (aE E st x.c) D x.f)]}, (So.aa st (So.aV (E.pa (id - 1).toNat) (E.one (id - 1).toNat).M.T [((x.c:Int),So.splice (aE E st x.c) D x.f)] (So.aI (So.ak (E.one (id - 1).toNat).M.T [((x.c:Int),So.splice (aE E st x.c) D x.f)])))).1, (So.aa st (So.aV (E.pa (id - 1).toNat) (E.one (id - 1).toNat).M.T [((x.c:Int),So.splice (aE E st x.c) D x.f)] (So.aI (So.ak (E.one (id - 1).toNat).M.T [((x.c:Int),So.splice (aE E st x.c) D x.f)])))).2⟩
def gI (B:Eb) (E:En) (r:Wr) (w:World) (e:Ending) (w':World):Prop:=e= aP r.x/\∃E',ai B E E' r.st w w'/\(r.x= 0\/r.x= 162->E'= r.E)
theorem gI.below {r:Wr} {w1:World} {e:Ending} (a:zB w w1) (h:gI B E r w1 e w'):gI B E r w e w':=by obtain ⟨h1,E',c,b⟩:=h;exact ⟨h1,E',c.below a,b⟩
theorem MS (h:Ek w B E st) (y:Good E st) (id:Int) (x:Em.Pc) (C:fJ E x) (D:zL) (Z:D.length= 64*x.n) {k i:Nat} (hk:k<16) (e1:E.aW id= (k:Int) +1) (l:(E.one k).t≠0) (m:Tb.find (E.one k).M.aK (x.c:Int)= some i): zF 54 #[zP B.q,zI id, zO x.c x.f x.n, .string (Om.B D)] w (gI B E (cj E st id x D) w):=by
 obtain ⟨n1,W,g1,g2⟩:=h.aF.small;have o:=C.low;have K:=C.chunk;have Y:=y.bQ;have hp:=y.ok k hk l;have S:=y.fit k hk l;have J:x.c<=E.n:=by have:x.c<=x.c*E.g:=UA _ (by omega);omega
 have hinv:(E.one k).M.inv= false:=by cases hi:(E.one k).M.inv with
  | false=>rfl
  | true =>
  have:(E.one k).M.aK= []:=by unfold So.Ms.aK;rw [hi];rfl
  rw [this]at m;simp [Tb.find]at m
 have j:=cO.2 ⟨k,hk,e1,l⟩;have hex:E.dO id x.c= some i:=by unfold En.dO;rw [j,if_pos rfl,show (E.aW id - 1).toNat= k by omega];exact m
 have T:cj E st id x D= ⟨E.set k {E.one k with M:=(E.one k).M.eJ i x.f D},(So.aa st [So.cV (E.pa k) i x.f D]).1,(So.aa st [So.cV (E.pa k) i x.f D]).2⟩:=by unfold cj;rw [hex,show (E.aW id - 1).toNat= k by omega]
 rw [T];have FI:=hT (λw1 (hb:zB w w1)=>oy (h.head.below hb) id);rw [h.de hk e1 l]at FI;have Q:Hid (∀w1,zB w w1->zF 120 #[xb (some ⟨B.sq k,0,none⟩),zI x.c] w1 λe w'=>e= nf (.bool true)/\w1= w'):=hT λw1 hb=>by have:=So.jL ((h.below hb).sk k hk l) (x.c:Int) (im (by omega));rw [m]at this;exact this
 obtain ⟨X,N⟩:=eX1 ((So.aa st [So.cV (E.pa k) i x.f D]).2);obtain ⟨st',a⟩:=eX1 ((So.aa st [So.cV (E.pa k) i x.f D]).1);have U:Hid (∀w1,zB w w1->zF 121 #[xb (some ⟨B.sq k,0,none⟩),zI x.c,zI x.f, .string (Om.B D)] w1 λe w'=>e= nf (zI X)/\ai B E (E.set k {E.one k with M:=(E.one k).M.eJ i x.f D}) st' w1 w'):=hT λw1 hb=>by
  have p:=h.below hb;refine (So.Lz (p.sk k hk l) hp (λ_=>by unfold So.Ms.aK;rw [hinv];exact S.fD) (x.c:Int) (x.f:Int) D (im (by omega)) (im (by omega)) (by omega) (by omega)).mono ?_;have F:So.wE (E.one k).M.inv (E.one k).M.aK (E.pa k) (x.c:Int) (x.f:Int) D= 0:=by
   have I:So.fE false (E.one k).M.aK (x.c:Int)= 0:=by unfold So.fE;rw [if_neg (by decide:¬(false= true)),if_pos (by rw [m];rfl)]
   unfold So.wE;rw [hinv,I,if_pos rfl,if_pos (by omega),if_pos (So.pX.2 ⟨by omega,by omega,by show ((D.length / 64:Nat):Int)<=(E.g:Int) - x.f;omega⟩)]
  rintro e w' (⟨c,_⟩|⟨_,i',d,rfl,hw⟩);· exact absurd F c
  ·rw [m]at d;injection d with d;subst d;rw [show ((x.f:Int)).toNat= x.f by omega]at hw⊢;obtain ⟨b2,H,G⟩:=hw;refine ⟨by rw [N],?_⟩;rw [a];exact p.store hk l (M:=(E.one k).M.eJ i x.f D) H G (So.gL h.dk.ok _).2
 unfold gI;dsimp only;rw [<-N,<-a];obtain ⟨A,r⟩:=eX2 (w.alloc (zK x.c x.f x.n 107));obtain ⟨z,L⟩:=jO w _ _ _ A r;have HB:=hT z;have HC:=hT L;have P:Hid (∀w1,zB A w1->zB w w1):=hT λw1 hb=>z.trans (hb.mono z.size);obtain ⟨b0,b1,b2⟩:=L A zR;obtain ⟨E2,s⟩:=eX1 (E.set k {E.one k with M:=(E.one k).M.eJ i x.f D});rw [<-s]at U⊢;obtain ⟨c,f,n⟩:=x;clear h C y Y m z L o K J n1 W g1 g2 hp S hinv j l e1 N a s T hex Z;go_enter func54,ntmps54;go_wp2_with fail;clear r;have R:=hT (FI.out A HB.out);refine zg R.out λw1 hb=>?_;have B1:=hT hb;have u:=hT (Q.out w1 (P.out w1 hb));have O:=hT (U.out w1 (P.out w1 hb));obtain ⟨t0,t1,t2⟩:=HC.out w1 hb;clear hb b0 b1 b2;go_wp2_with fail;refine zh u.out ?_;go_wp2_with fail;refine zg O.out λw3 hw=>?_;have v:=hT (hw.below (P.out _ B1.out));clear hw;by_cases b:X= 0;· subst b;have NE:=hT (λw1=>dv w1);go_wp2_with fail;refine zh (NE.out _) ?_;go_wp2_with fail;go_end0;exact ⟨rfl,v.out⟩
 ·have NE:=hT (λw1=>dy X b w1);have V:=hT (aX b);clear b;unfold aB at NE V;go_wp2_with fail;refine zh (NE.out _) ?_;go_wp2;exact ⟨rfl,V.out.symm,E2,v.out,λ_=>rfl⟩
theorem ai.next {E'':En} {w1 w2:World} (a:br B E B' E' w w1) (h:ai B' E' E'' st w1 w2):ai B E E'' st w w2:=by obtain ⟨c,h1,b⟩:=h;exact ⟨c,h1,a.trans b⟩
theorem MT (st:Dm.St) (k:Nat) (cs:List (List UInt8)):(Dm.bJ st k cs).2≠162:=by induction cs generalizing st k with
 | nil=>show (0:Int)≠162;decide
 | cons c cs ih =>
 unfold Dm.bJ;split;· exact ih _ _
 ·show (41:Int)≠162;decide
theorem MV (st:Dm.St) (o:So.Op):(So.step st o).2≠162:=by cases o with
 | fl =>
 show (Dm.flush st).2≠162;unfold Dm.flush;split;· show (0:Int)≠162;decide
 ·show (41:Int)≠162;decide
 | wr k d =>
 show (Dm.write st (k:Int) d).2≠162;unfold Dm.write;split;· show (41:Int)≠162;decide
 ·split;·
   split;· exact MT _ _ _
   ·show (2:Int)≠162;decide
  ·show (1:Int)≠162;decide
theorem AU (st:Dm.St) (ops:List So.Op):(So.aa st ops).2≠162:=by induction ops generalizing st with
 | nil=>show (0:Int)≠162;decide
 | cons o r ih =>
 by_cases h:(So.step st o).2= 0;· rw [So.gq _ h];exact ih _
 ·rw [So.iy _ h];exact MV _ _
def jS (B:Eb) (E:En) (st:Dm.St) (w w':World):Prop:=∃d',Ek w' {B with d:=d'} E st/\br B E {B with d:=d'} E w w'
theorem jS.cP (h:jS B E st w w'):ai B E E st w w':=by obtain ⟨b,h1,a⟩:=h;exact ⟨_,h1,a⟩
theorem jS.low (h:jS B E st w w'):w'.cell? (zD B.q 4)= some (zP B.oq):=by obtain ⟨b,h1,a⟩:=h;exact h1.head.low.2.2.2.2
theorem jS.aF (h:Ek w B E st) (hd:Og.ai ⟨B.oq,B.d⟩ E.n E.g st' w w') (b:st'.S.length= st.S.length):jS B E st' w w':=by obtain ⟨a,h1,c⟩:=hd;exact ⟨a.d,h.iH h1.dk c.d b⟩
theorem ai.aF (h:Ek w B E st) (hd:Og.ai ⟨B.oq,B.d⟩ E.n E.g st' w w') (b:st'.S.length= st.S.length):ai B E E st' w w':=by obtain ⟨a,h1,c⟩:=hd;exact h.cP ⟨a.d,h1.dk,c.d⟩ b
theorem MW (h:Ek w B E st) (hg:Good E st) (x:Em.Pc) (hx:fJ E x) (ab:1≤x.n) (D:zL) (hD:D.length= 64*x.n) (u:E.dO 0 x.c= none) (hc:oF E st x.c (aE E st x.c))
    (s:(So.aa st (aq E x.c (aE E st x.c) 16)).1.P.length≤68719476736):
    zF 54 #[zP B.q,zI 0, zO x.c x.f x.n, .string (Om.B D)] w (gI B E (cj E st 0 x D) w):=by
  obtain ⟨n1,n2,g1,g2⟩:=h.aF.small
  have J:=hx.low
  have ao:x.c≤E.n:=by have:x.c≤x.c*E.g:=UA _ (by omega);omega
  obtain ⟨d,hd⟩:=eX1 (aE E st x.c)
  have hR:cj E st 0 x D= ⟨E.aJ x.c d 16,(So.aa st (aq E x.c d 16 ++ [jR E x D])).1,(So.aa st (aq E x.c d 16 ++ [jR E x D])).2⟩:=by
    unfold cj
    rw [u,←hd]
    rfl
  rw [hR]
  rw [←hd]at hc s
  have FI:=hT (fun w1 (a:zB w w1)=>oy (h.head.below a) 0)
  have S:Hid (∀w1,zB w w1→zF 120 #[B.de E (E.aW 0),zI x.c] w1 fun e w'=>e= nf (.bool false)∧w1= w'):=hT fun w1 a=>by
    unfold En.dO at u
    cases W:E.has (E.aW 0) with
    | false=>rw [qC W];exact So.Av _ w1
    | true =>
      rw [W,if_pos rfl]at u
      obtain ⟨k,hk,e1,h0⟩:=cO.1 W
      rw [h.de hk e1 h0]
      rw [show (E.aW 0 - 1).toNat= k by omega]at u
      have:=So.jL ((h.below a).sk k hk h0) (x.c:Int) (im (by omega))
      rw [u]at this
      exact this
  have F:Hid (∀w1,zB w w1→zF 75 #[zP B.q,zI x.c] w1 (lE B E st x.c d w1)):=hT fun w1 a=>Ap (h.below a) hc
  have s1:=(gd E x.c d 16).1
  have s2:=(gd E x.c d 16).2.1
  have s3:=(gd E x.c d 16).2.2
  obtain ⟨st1,b⟩:=eX1 ((So.aa st (aq E x.c d 16)).1)
  have Q:Hid (∀w1 i,Ek w1 i (E.aJ x.c d 16) st1→zF 122 #[zP i.oq,zI ((x.c*E.g+x.f:Nat):Int), .string (Om.B D)] w1 fun e w'=>e= nf (zI (So.aa st1 [jR E x D]).2)∧jS i (E.aJ x.c d 16) (So.aa st1 [jR E x D]).1 w1 w'):=hT fun w1 i hk=>by
    have:=Og.Le hk.aF ((x.c*E.g+x.f:Nat):Int) D (by omega) (by omega) (by rw [b];omega)
    have hq:D.length / 64= x.n:=by omega
    have W:Og.hasB (E.aJ x.c d 16).n ((x.c*E.g+x.f:Nat):Int) ((D.length / 64:Nat):Int):=by
      rw [s2,hq]
      exact Og.mu.2 ⟨by omega,by omega,by omega⟩
    unfold Og.wE Og.wS at this
    rw [if_pos (by omega),if_pos W,if_pos (by omega),if_pos W]at this
    have eo:So.aa st1 [jR E x D]= Dm.write st1 (17+ ((x.c*E.g+x.f:Nat):Int)) D:=by
      rw [So.kd]
      show (Dm.write st1 ((17+ (x.c*E.g+x.f):Nat):Int) D)= _
      congr 1
    rw [eo]
    exact this.mono fun e w' ⟨e1,e2⟩=>⟨e1,jS.aF hk e2 (Og.Ag _ hk.dk.ok _ _)⟩
  have AT:Hid (∀w1 i,Ek w1 i (E.aJ x.c d 16) st1→zF 123 #[zP i.q, zO x.c x.f x.n] w1 fun e w'=>e= nf (zI ((x.c*E.g+x.f:Nat):Int))∧zB w1 w'):=hT fun w1 i hk=>by
    have:=Aq hk.head (by rw [s1,s2,s3];exact hg.aj) x.c x.f (x.n:Int) (by rw [s3];omega)
    rw [s3]at this
    exact this
  obtain ⟨X,K⟩:=eX1 ((So.aa st (aq E x.c d 16)).2)
  have HN:Hid (¬B.fp E w.heap.size):=hT fun e=>TL _ (h.lt _ e)
  obtain ⟨W0,C⟩:=eX2 (w.alloc (zK x.c x.f x.n 107))
  obtain ⟨hB,z⟩:=jO w _ _ _ W0 C
  have G:Hid (w.heap.size<W0.heap.size):=hT (by rw [←C];simp)
  have HB:=hT hB
  have HC:=hT z
  have HD:Hid (∀w1,zB W0 w1→zB w w1):=hT fun w1 a=>hB.trans (a.mono hB.size)
  obtain ⟨b0,b1,b2⟩:=z W0 zR
  obtain ⟨ops,r⟩:=eX1 (aq E x.c d 16)
  obtain ⟨og,M⟩:=eX1 (jR E x D)
  unfold gI
  unfold lE at F
  dsimp only
  rw [←r]at K b F⊢
  rw [←M]at Q⊢
  rw [←K,←b]at F
  obtain ⟨E1,N⟩:=eX1 (E.aJ x.c d 16)
  rw [←N]at F Q AT⊢
  generalize B.de E (E.aW 0)= V at FI S
  by_cases m:X= 0
  · have ER:Hid (So.aa st (ops ++ [og])= So.aa st1 [og]):=hT (by rw [So.ia _ (by rw [←K];exact m),b])
    rw [ER.out]
    subst m
    rw [cF]at F
    obtain ⟨Y,hY⟩:=eX1 ((So.aa st1 [og]).2)
    obtain ⟨st2,I⟩:=eX1 ((So.aa st1 [og]).1)
    rw [←hY,←I]at Q⊢
    generalize ((x.c*E.g+x.f:Nat):Int)= A at AT Q
    obtain ⟨c,f,n⟩:=x
    clear h hx hg u hB z J ao n1 n2 g1 g2 hD hd hR hc s s1 s2 s3 b r M N K ER hY I ab
    go_enter func54,ntmps54
    go_wp2_with fail
    clear C
    have T:=hT (FI.out W0 HB.out)
    refine zg T.out fun w1 a=>?_
    have i:=hT a
    have t:=hT (S.out w1 (HD.out w1 a))
    have O:=hT (F.out w1 (HD.out w1 a))
    obtain ⟨t0,t1,t2⟩:=HC.out w1 a
    clear a b0 b1 b2
    go_wp2_with fail
    refine zh t.out ?_
    go_wp2_with fail
    refine O.out.mono ?_
    rintro e w2 ⟨rfl,E',hw,Z⟩
    rw [(by first|exact Z rfl|exact Z trivial:E'= E1)]at hw
    clear Z
    have L:=hw.box (ti G.out i.out.size) HN.out
    have u0:=(L 0).trans t0
    have u1:=(L 1).trans t1
    have u2:=(L 2).trans t2
    obtain ⟨v,l,j⟩:=hw
    have o:=j.q
    have r4:=l.head.low.2.2.2.2
    rw [o]at r4
    have KK:Hid (Ek w2 v E1 st1∧br B E v E1 w w2):=hT ⟨l,(br.ax (HD.out _ i.out)).trans j⟩
    have U:Hid (∀w3,zB w2 w3→_):=hT fun w3 (a:zB w2 w3)=>AT.out w3 v (l.below a)
    have aw:Hid (∀w3,zB w2 w3→_):=hT fun w3 (a:zB w2 w3)=>Q.out w3 v (l.below a)
    have R:Hid (∀w3,zB w2 w3→w3.cell? (zD B.q 4)= some (zP v.oq)∧w3.cell? (zz w 0)= some (zI c)∧w3.cell? (zz w 1)= some (zI f)∧w3.cell? (zz w 2)= some (zI n)):=hT fun w3 a=>by
      have hl:=ti (ti G.out i.out.size) j.fr.size
      have bg:B.q<w2.heap.size:=by rw [←o];exact l.lt _ (.inl rfl)
      exact ⟨(a.cell (p:=(zD B.q 4)) bg).trans r4,(a.cell (p:=(zz w 0)) hl).trans u0,(a.cell (p:=(zz w 1)) hl).trans u1,(a.cell (p:=(zz w 2)) hl).trans u2⟩
    have bb:Hid (∀w5,(∃w3,zB w2 w3∧jS v E1 st2 w3 w5)→w5.cell? (zD B.q 4)= some (zP v.oq)∧w5.cell? (zz w 0)= some (zI c)∧w5.cell? (zz w 1)= some (zI f)∧w5.cell? (zz w 2)= some (zI n)):=hT fun w5 h5=>by
      obtain ⟨w3,a,af⟩:=h5
      have hl:=ti (ti G.out i.out.size) j.fr.size
      have bf:¬v.fp E1 w.heap.size:=fun hf=>(j.fp _ hf).elim HN.out fun c=>by have:=G.out;have:=i.out.size;omega
      obtain ⟨z3,z0,z1,z2⟩:=R.out w3 a
      have L:=af.cP.box (ti hl a.size) bf
      have q4:=af.low
      rw [o]at q4
      exact ⟨q4,(L 0).trans z0,(L 1).trans z1,(L 2).trans z2⟩
    rw [o]at U
    clear l j o L t0 t1 t2 AT Q
    by_cases y:Y= 0
    · subst y
      have NE:=hT (fun w1=>dv w1)
      go_wp2_with fail
      go_region_held3 (fun w'=>w'.cell? (zD B.q 4)= some (zP v.oq)∧w'.cell? (zz w 0)= some (zI c)∧w'.cell? (zz w 1)= some (zI f)∧w'.cell? (zz w 2)= some (zI n))
        (first|(refine ⟨?_,?_,?_,?_⟩<;>assumption)|go_keep)
        (first
          | (go_at_call 123;refine zg (U.out _ zR.drew) fun w3 a=>?_;have H:=hT (Og.dL a);obtain ⟨x3,x0,x1,x2⟩:=R.out w3 H.out;clear a)
          | (go_at_call 122;refine zg (aw.out _ H.out) fun w5 hw=>?_;have W5:=hT (ai.next KK.out.2 (hw.cP.below H.out));have y9:=bb.out w5 ⟨_,H.out,hw⟩;obtain ⟨y3,y0,y1,y2⟩:=y9;clear hw)
          | (go_at_call 91;refine zh (NE.out _) ?_))
      go_end0
      exact ⟨rfl,E1,W5.out,fun _=>rfl⟩
    · have NE:=hT (fun w1=>dy Y y w1)
      have EE:=hT (aX y)
      clear y
      unfold aB at NE EE
      go_wp2_with fail
      go_region_held (fun w'=>w'.cell? (zD B.q 4)= some (zP v.oq)∧w'.cell? (zz w 0)= some (zI c)∧w'.cell? (zz w 1)= some (zI f)∧w'.cell? (zz w 2)= some (zI n))
        (first|(refine ⟨?_,?_,?_,?_⟩<;>assumption)|go_keep)
        (first
          | (go_at_call 123;refine zg (U.out _ zR.drew) fun w3 a=>?_;have H:=hT (Og.dL a);obtain ⟨x3,x0,x1,x2⟩:=R.out w3 H.out;clear a)
          | (go_at_call 122;refine zg (aw.out _ H.out) fun w5 hw=>?_;have W5:=hT (ai.next KK.out.2 (hw.cP.below H.out));have y9:=bb.out w5 ⟨_,H.out,hw⟩;obtain ⟨y3,y0,y1,y2⟩:=y9;clear hw)
          | (go_at_call 91;refine zh (NE.out _) ?_;refine T7 fun u=>?_;have ad:=u ⟨rfl,EE.out.symm,E1,W5.out,fun _=>rfl⟩;clear u;refine So.jg (by assumption) ad {tmps:=#[],defers:= []} w5 ?_))
      exact ad.elim
  · have ba:Hid (X≠0∧X≠162):=hT ⟨m,by rw [K];exact AU _ _⟩
    have ER:Hid (So.aa st (ops ++ [og])= So.aa st ops):=hT (So.ke _ (by rw [←K];exact m))
    rw [ER.out,←K,←b]
    have EE:=hT (aX m)
    rw [EE.out]at F⊢
    unfold aB at F
    obtain ⟨c,f,n⟩:=x
    clear h hx hg u hB z J ao n1 n2 g1 g2 hD hd hR hc s s1 s2 s3 b r M N K ER ab m EE Q AT
    go_enter func54,ntmps54
    go_wp2_with fail
    clear C
    have T:=hT (FI.out W0 HB.out)
    refine zg T.out fun w1 a=>?_
    have i:=hT a
    have t:=hT (S.out w1 (HD.out w1 a))
    have O:=hT (F.out w1 (HD.out w1 a))
    obtain ⟨t0,t1,t2⟩:=HC.out w1 a
    clear a b0 b1 b2
    go_wp2_with fail
    refine zh t.out ?_
    go_wp2_with fail
    refine O.out.mono ?_
    rintro e w2 ⟨rfl,E',hw,Z⟩
    have bl:Hid (∃E',ai B E E' st1 w w2∧(X= 0∨X= 162→E'= E1)):=hT ⟨E',hw.below (HD.out _ i.out),fun c=>c.elim (fun c=>by first|exact Z c|exact absurd c (ba.out.1)) fun c=>absurd c ba.out.2⟩
    clear hw Z
    go_wp2
    exact ⟨rfl,rfl,bl.out⟩
theorem MX (h:Ek w B E st) (v:Good E st) (x:Em.Pc) (D:zL) {k:Nat} (hk:k<16) (m:(E.one k).t≠0) (d:(E.one k).M.inv= false) (l:So.free (E.one k).M.T= 0): zF 124 #[zP B.q, xb (some ⟨B.sq k,0,none⟩), zO x.c x.f x.n, .string (Om.B D)] w λe w'=> e= aB (if (So.aa st (So.bY (E.pa k))).2= 0 then 162 else (So.aa st (So.bY (E.pa k))).2)/\ai B E (E.set k {E.one k with M:=(E.one k).M.eh}) (So.aa st (So.bY (E.pa k))).1 w w':=by
 have H:=v.bQ;have hp:=v.ok k hk m;have C:(E.one k).M.aK= (E.one k).M.T:=by unfold So.Ms.aK;rw [d];rfl
 have G:=hT (λw1 (hb:zB w w1)=>So.ow ((h.below hb).sk k hk m));rw [C,l]at G;obtain ⟨X,y⟩:=eX1 ((So.aa st (So.bY (E.pa k))).2);obtain ⟨st',a⟩:=eX1 ((So.aa st (So.bY (E.pa k))).1);have z:Hid (∀w1,zB w w1->zF 136 #[xb (some ⟨B.sq k,0,none⟩)] w1 λe w'=>e= nf (zI X)/\ai B E (E.set k {E.one k with M:=(E.one k).M.eh}) st' w w'):=hT λw1 hb=>by have j:=h.below hb;refine (So.Aa (j.sk k hk m) hp (by omega)).mono ?_;rintro e w' ⟨rfl,b2,u,s⟩;refine ⟨by rw [y],?_⟩;rw [a];exact (j.store hk m (M:=(E.one k).M.eh) u s (So.gL h.dk.ok _).2).below hb
 rw [<-y,<-a];have r:=hT (b_ w (zK x.c x.f x.n 107));generalize E.set k {E.one k with M:=(E.one k).M.eh}= E1 at z⊢;obtain ⟨c,f,n⟩:=x;obtain ⟨F,g⟩:=eX2 (w.alloc (zK c f n 107));have r:Hid (zB w F):=hT (by rw [<-g];exact zA);have o:=hT (G.out F r.out);clear h v H hp C y a l d m;by_cases b:X= 0;· subst b;rw [if_pos rfl];have NE:=hT (λw1=>dv w1);have p:=hT (λw1=>dy 162 (by decide) w1);unfold aB at p⊢;go_enter func124,ntmps124;go_wp2_with fail;clear g;refine zg o.out λw1 hb=>?_;have i:=hT (z.out w1 (zH r hb));clear hb;go_wp2_with fail;refine zg i.out λw2 hw=>?_;have A:=hT hw;clear hw;go_wp2_with fail;refine zh (NE.out _) ?_;go_wp2_with fail;refine zh (p.out _) ?_;go_wp2;exact ⟨rfl,rfl,A.out⟩
 ·rw [if_neg b];have p:=hT (λw1=>dy X b w1);unfold aB at p⊢;clear b;go_enter func124,ntmps124;go_wp2_with fail;clear g;refine zg o.out λw1 hb=>?_;have i:=hT (z.out w1 (zH r hb));clear hb;go_wp2_with fail;refine zg i.out λw2 hw=>?_;have A:=hT hw;clear hw;go_wp2_with fail;refine zh (p.out _) ?_;go_wp2;exact ⟨rfl,rfl,A.out⟩
theorem MZ (h:Ek w B E st) (hg:Good E st) (x:Em.Pc) (hx:fJ E x) (bl:1<=x.n) (D:zL) (hD:D.length= 64*x.n) {k:Nat} (hk:k<16) (u:(E.one k).t≠0) (b:(E.one k).M.inv= false) (O:So.free (E.one k).M.T≠0) (hn:Tb.find (E.one k).M.T (x.c:Int)= none) (P:Og.cE E.n E.g st x.c= 0) (m:(Og.cS E.n E.g st x.c).length= 64*E.g): zF 124 #[zP B.q, xb (some ⟨B.sq k,0,none⟩), zO x.c x.f x.n, .string (Om.B D)] w λe w'=> e= aP (So.aa st (So.aV (E.pa k) (E.one k).M.T [((x.c:Int),So.splice (Og.cS E.n E.g st x.c) D x.f)] (So.aI (So.ak (E.one k).M.T [((x.c:Int),So.splice (Og.cS E.n E.g st x.c) D x.f)])))).2/\ ∃ E', ai B E E' (So.aa st (So.aV (E.pa k) (E.one k).M.T [((x.c : Int), So.splice (Og.cS E.n E.g st x.c) D x.f)] (So.aI (So.ak (E.one k).M.T [((x.c : Int), So.splice (Og.cS E.n E.g st x.c) D x.f)])))).1 w w' /\ ((So.aa st (So.aV (E.pa k) (E.one k).M.T [((x.c:Int),So.splice (Og.cS E.n E.g st x.c) D x.f)] (So.aI (So.ak (E.one k).M.T [((x.c:Int),So.splice (Og.cS E.n E.g st x.c) D x.f)])))).2= 0->E'= E.set k {E.one k with M:=(E.one k).M.du [((x.c:Int),So.splice (Og.cS E.n E.g st x.c) D x.f)]}):=by
 obtain ⟨n1,n2,g1,g2⟩:=h.aF.small;have K:=hx.low;have U:=hx.chunk;have hP:=hg.bQ;have hp:=hg.ok k hk u;have hf:=hg.fit k hk u;have ao:x.c<E.n:=by have:x.c<=x.c*E.g:=UA _ (by omega);omega
 have R:x.c<Em.parts E.n E.g:=(Em.kL (by omega)).2 (by omega);have et:(E.one k).M.aK= (E.one k).M.T:=by unfold So.Ms.aK;rw [b];rfl
 have SL:=hT (λw1 (hb:zB w w1)=>So.ow ((h.below hb).sk k hk u));rw [et]at SL;have CH:=hT (λw1 (hb:zB w w1)=>Og.Am (h.below hb).aF x.c R (by omega));rw [P]at CH;obtain ⟨d,hd⟩:=eX1 (Og.cS E.n E.g st x.c);rw [<-hd]at CH m⊢;obtain ⟨sp,j⟩:=eX1 (So.splice d D x.f);have s:sp.length= 64*E.g:=by rw [j,So.pU (by omega),m]
 rw [<-j];have V:=Ao (g:=(E.pa k).g) (d:=sp) (by omega:x.c<=1048576) hn s O;obtain ⟨ops,i⟩:=eX1 (So.aV (E.pa k) (E.one k).M.T [((x.c:Int),sp)] (So.aI (So.ak (E.one k).M.T [((x.c:Int),sp)])));rw [<-i];obtain ⟨X,hX⟩:=eX1 ((So.aa st ops).2);have J: [((x.c:Int),sp)]≠ []:=by simp
 have AD:Hid (∀w1,zB w w1->zF 137 #[xb (some ⟨B.sq k,0,none⟩), zS w1.heap.size 1 1] (w1.alloc (hV #[zI x.c, .string (Om.B sp)] 181)) λe w'=>e= nf (zI X)/\ ∃E',ai B E E' (So.aa st ops).1 w w'/\(X= 0->E'= E.set k {E.one k with M:=(E.one k).M.du [((x.c:Int),sp)]})):=hT λw1 hb=>by
  have C:zB w (w1.alloc (hV #[zI x.c, .string (Om.B sp)] 181)):=hb.alloc hb.size _;have z:=h.below C;have H:=z.sk k hk u;rw [b,et]at H;refine (So.Ad H hp (λ_=>hf.fD) (l:= [((x.c:Int),sp)]) 1 1 rfl (by omega) (by omega) (some ⟨w1.heap.size,0,none⟩) (An w1 _ sp) (λg off _ e hf2=>?_) (λy hy=>?_)).mono ?_;· injection e with e;injection e with e1 _ _;subst e1;have:=(h.sk k hk u).lt _ hf2;have:=hb.size;omega
  ·rw [H5]at hy;subst hy;exact im (by omega)
  ·rintro e w' (⟨h1|h1,_⟩|⟨_,_,rfl,m',h2,h3⟩);· exact absurd V h1
   ·exact absurd h1 J
   ·rw [<-i]at h2 h3⊢;refine ⟨by rw [hX],?_⟩;obtain ⟨b2,N,I⟩:=h2;by_cases a:X= 0;·
     have em:=h3 (by rw [<-hX];exact a);refine ⟨_,(z.store hk u (M:=(E.one k).M.du [((x.c:Int),sp)]) ?_ I (So.gL h.dk.ok _).2).below C,λ_=>rfl⟩;have e2:((E.one k).M.du [((x.c:Int),sp)]).inv= false:=b;have e3:((E.one k).M.du [((x.c:Int),sp)]).aK= m':=by unfold So.Ms.aK;rw [e2,em];rfl
     rw [e2,e3];exact N
    ·exact ⟨_,(z.store hk u (M:=⟨m', [],false⟩) N I (So.gL h.dk.ok _).2).below C,λc=>absurd c a⟩
 rw [<-hX];have HL:Hid (∀w1,zB w w1->w1.cell? (zD B.q 4)= some (zP B.oq)):=hT λw1 hb=>(h.head.below hb).low.2.2.2.2;obtain ⟨W0,W⟩:=eX2 (w.alloc (zK x.c x.f x.n 107));obtain ⟨hB,A⟩:=jO w _ _ _ W0 W;have HC:=hT A;have HD:Hid (∀w1,zB W0 w1->zB w w1):=hT λw1 hb=>hB.trans (hb.mono hB.size);have d2:(((So.free (E.one k).M.T:Nat):Int) == 0)= false:=by simp;omega
 have Z:=hT (SL.out W0 hB);generalize ((So.free (E.one k).M.T:Nat):Int)= L at Z d2;have MU:=hT (λv w1=>eL v w1);obtain ⟨b0,b1,b2⟩:=A W0 zR;have aw:=hT j;have bb:=hT m;have ab:=hT hD;have ba:Hid (x.f+x.n<=E.g/\E.g<=128):=hT ⟨U,g2⟩;clear h hg hP hp et O b u K ao R hf SL P hd V J hX i s hB A hx hn n1 n2 g1 g2 U j m hD;go_enter func124,ntmps124;go_wp2_with fail;clear W;refine zg Z.out λw1 hb=>?_;have B1:=hT hb;obtain ⟨t0,t1,t2⟩:=HC.out w1 hb;have q4:=HL.out w1 (HD.out w1 hb);clear hb b0 b1 b2;go_wp2_with fail;go_region_held3 (λw'=>w'.cell? (zD B.q 4)= some (zP B.oq)/\w'.cell? (zz w 0)= some (zI x.c)/\w'.cell? (zz w 1)= some (zI x.f)) (first|(refine ⟨?_,?_,?_⟩<;>assumption)|go_keep) (first
  | (go_at_call 138;refine zg ((CH.out _ (HD.out _ (B1.out.trans (zR.drew.mono B1.out.size))))) λw3 hb=>?_;have B3:=hT (B1.out.trans ((Og.dL hb).mono B1.out.size));obtain ⟨x0,x1,x2⟩:=HC.out w3 B3.out;have r4:=HL.out w3 (HD.out w3 B3.out);clear hb)
  | (go_at_call 93;refine zh (MU.out _ _) ?_));have r:(Om.B d).size= 64*E.g:=by rw [Om.aG,bb.out]
 have G:(Om.B D).size= 64*x.n:=by rw [Om.aG,ab.out]
 have af:=ba.out;obtain ⟨F,hF⟩:=eX1 (64*x.f);obtain ⟨S,hS⟩:=eX1 (64*E.g);obtain ⟨Q,hQ⟩:=eX1 (64*x.n);rw [<-hS]at r;rw [<-hQ]at G;have bg:lg.wrap ((x.f:Int) *64)= (F:Int):=by rw [hF,rr _ (by omega)];omega
 have bf:lg.wrap ((F:Int) + (Q:Int))= ((F+Q:Nat):Int):=by rw [rr _ (by omega)];rfl
 have l1:(F:Int)<=(S:Int):=by omega
 have l2:((F+Q:Nat):Int)<=(S:Int):=by omega
 have l3:(0:Int)<=(F:Int):=by omega
 have l4:(0:Int)<=((F+Q:Nat):Int):=by omega
 obtain ⟨Y,p⟩:=eX1 ((Om.B d).extract 0 F);obtain ⟨T2,o⟩:=eX1 ((Om.B d).extract (F+Q) S);have z1:Y.size= F:=by rw [p,Vu,r];omega
 have z2:T2.size= S - (F+Q):=by rw [o,Vu,r];omega
 have k1:¬9223372036854775807<Y.size+ (Om.B D).size:=by rw [z1,G];omega
 have k2:¬9223372036854775807< (Y ++ Om.B D).size+T2.size:=by rw [ByteArray.size_append,z1,G,z2];omega
 have HT:Hid (Y ++ Om.B D ++ T2= Om.B sp):=hT (by
  have e2:T2= Om.B (d.drop (F+Q)):=by rw [o,<-r,Om.j_];rw [Om.fx]
  have e1:Y= Om.B (d.take F):=by rw [p,Og.qN]
  rw [e1,e2,Om.fy,Om.fy,aw.out];unfold So.splice;rw [ab.out,hF,hQ]);have bo:=p.symm;have bm:=o.symm;have B4:=hT (HD.out _ B3.out);clear af hF hS hQ p o t0 t1 t2 q4 r4 z1 z2;go_wp2_with fail;go_quiet (fail);have ad:=hT (AD.out (w3.drewN nq) (So.fc B4.out nq));obtain ⟨y0,y1,y2⟩:=HC.out (w3.drewN nq) (So.fc B3.out nq);rw [<-HT.out]at ad;clear x0 x1 x2;go_wp2_with fail;refine ad.out.mono ?_;rintro e w6 ⟨rfl,E',hw,hE⟩;have HW:=hT hw;have HE:=hT hE;clear hw hE;by_cases a:X= 0;·
  have NE:=hT (λw1=>dv w1);subst a;go_wp2_with fail;refine zh (NE.out _) ?_;go_wp2_with fail;go_end0;have e9:E'= E.set k {E.one k with M:=(E.one k).M.du [((x.c:Int),sp)]}:=by first|exact HE.out rfl|exact HE.out trivial|exact HE.out
  first|exact ⟨rfl,E',HW.out,λ_=>e9⟩|exact ⟨rfl,by rw [<-e9];exact HW.out⟩
 ·have EE:=hT (aX a);have NX:=hT (λw1=>dy X a w1);unfold aB at NX EE;clear a;go_wp2_with fail;refine zh (NX.out _) ?_;go_wp2;exact ⟨rfl,EE.out.symm,E',HW.out,HE.out⟩
theorem AW (h:Ek w B E st) (id:Int) (x:Em.Pc) (D:zL) (l:x.c<=1048576) {k:Nat} (hk:k<16) (e1:id= (k:Int) +1) (v:(E.one k).t≠0) (A:Tb.find (E.one k).M.aK (x.c:Int)= none) {X:Int} {Q:World->Prop} (z:∀w1,zB w w1->zF 124 #[zP B.q, xb (some ⟨B.sq k,0,none⟩), zO x.c x.f x.n, .string (Om.B D)] w1 λe w'=>e= aP X/\Q w'): zF 54 #[zP B.q,zI id, zO x.c x.f x.n, .string (Om.B D)] w λe w'=>e= aP X/\Q w':=by
 have j:E.aW id= id:=by unfold En.aW;rw [if_neg (by omega)]
 have FI:=hT (λw1 (hb:zB w w1)=>oy (h.head.below hb) id);rw [h.de hk (by rw [j];exact e1) v]at FI;have p:Hid (∀w1,zB w w1->zF 120 #[xb (some ⟨B.sq k,0,none⟩),zI x.c] w1 λe w'=>e= nf (.bool false)/\w1= w'):=hT λw1 hb=>by have:=So.jL ((h.below hb).sk k hk v) (x.c:Int) (im l);rw [A]at this;exact this
 have o:=hT z;obtain ⟨m,d⟩:=eX2 (w.alloc (zK x.c x.f x.n 107));obtain ⟨r,b⟩:=jO w _ _ _ m d;have G:=hT r;have F:=hT b;have s:Hid (∀w1,zB m w1->zB w w1):=hT λw1 hb=>r.trans (hb.mono r.size);obtain ⟨C,b1,b2⟩:=b m zR;have d0:(id == 0)= false:=by simp;omega
 obtain ⟨c,f,n⟩:=x;clear h l e1 v A z j r b;by_cases u:X= 0;· subst u;rw [cF]at o⊢;go_enter func54,ntmps54;go_wp2_with fail;clear d;have i:=hT (FI.out m G.out);refine zg i.out λw1 hb=>?_;have a:=hT (p.out w1 (s.out w1 hb));have g:=hT (o.out w1 (s.out w1 hb));obtain ⟨I,H,t2⟩:=F.out w1 hb;clear hb C b1 b2;go_wp2_with fail;refine zh a.out ?_;go_wp2_with fail;refine zg g.out λw3 hw=>?_;have y:=hT hw;clear hw;go_wp2_with fail;go_end0;exact ⟨rfl,y.out⟩
 ·rw [aX u]at o⊢;unfold aB at o⊢;clear u;go_enter func54,ntmps54;go_wp2_with fail;clear d;have i:=hT (FI.out m G.out);refine zg i.out λw1 hb=>?_;have a:=hT (p.out w1 (s.out w1 hb));have g:=hT (o.out w1 (s.out w1 hb));obtain ⟨I,H,t2⟩:=F.out w1 hb;clear hb C b1 b2;go_wp2_with fail;refine zh a.out ?_;go_wp2_with fail;refine zg g.out λw3 hw=>?_;have y:=hT hw;clear hw;go_wp2;exact ⟨rfl,rfl,y.out⟩
structure lH (E:En) (st:Dm.St) (id:Int) (x:Em.Pc):Prop where
 aN:Good E st
 pc:fJ E x
 n1:1<=x.n
 cI:id= 0\/∃k:Nat,k<16/\id= (k:Int) +1/\(E.one k).t≠0/\(E.one k).M.inv= false
 save:id= 0->oF E st x.c (aE E st x.c)/\(So.aa st (aq E x.c (aE E st x.c) 16)).1.P.length<=68719476736
 chunk:Og.cE E.n E.g st x.c= 0/\(aE E st x.c).length= 64*E.g
theorem M1 (h:Ek w B E st) (id:Int) (x:Em.Pc) (D:zL) (y:D.length= 64*x.n) (d:lH E st id x):
    zF 54 #[zP B.q,zI id, zO x.c x.f x.n, .string (Om.B D)] w (gI B E (cj E st id x D) w):=by
  have s:=d.aN
  cases he:E.dO id x.c with
  | some i =>
    have b:=he
    unfold En.dO at b
    cases hh:E.has (E.aW id) with
    | false=>rw [hh]at b;cases b
    | true =>
      rw [hh,if_pos rfl]at b
      obtain ⟨k,hk,r,o⟩:=cO.1 hh
      rw [show (E.aW id - 1).toNat= k by omega]at b
      exact MS h s id x d.pc D y hk r o b
  | none =>
    by_cases j:id= 0
    · subst j
      exact MW h s x d.pc d.n1 D y he (d.save rfl).1 (d.save rfl).2
    · obtain ⟨k,hk,r,o,hinv⟩:=d.cI.resolve_left j
      obtain ⟨n1,F,g1,g2⟩:=h.aF.small
      have z:=d.pc.low
      have p:x.c≤1048576:=by have:x.c≤x.c*E.g:=UA _ (by omega);omega
      have u:E.aW id= id:=by unfold En.aW;rw [if_neg j]
      have m:(id - 1).toNat= k:=by omega
      have a:Tb.find (E.one k).M.aK (x.c:Int)= none:=by
        unfold En.dO at he
        rw [u,cO.2 ⟨k,hk,r,o⟩,if_pos rfl,m]at he
        exact he
      have C:(E.one k).M.aK= (E.one k).M.T:=by unfold So.Ms.aK;rw [hinv];rfl
      by_cases l:So.free (E.one k).M.T= 0
      · have v:cj E st id x D= ⟨E.set k {E.one k with M:=(E.one k).M.eh},(So.aa st (So.bY (E.pa k))).1,if (So.aa st (So.bY (E.pa k))).2= 0 then 162 else (So.aa st (So.bY (E.pa k))).2⟩:=by
          unfold cj
          rw [he]
          dsimp only
          rw [if_neg j,m,if_pos l]
        rw [v]
        unfold gI
        dsimp only
        have t:(if (So.aa st (So.bY (E.pa k))).2= 0 then (162:Int) else (So.aa st (So.bY (E.pa k))).2)≠0:=by
          split
          · decide
          · rename_i c;exact c
        refine AW h id x D p hk r o a fun w1 hb=>?_
        refine zg (MX (h.below hb) s x D hk o hinv l) fun w' hw=>?_
        exact ⟨(aX t).symm,_,hw.below hb,fun _=>rfl⟩
      · have v:cj E st id x D= ⟨E.set k {E.one k with M:=(E.one k).M.du [((x.c:Int),So.splice (aE E st x.c) D x.f)]},
            (So.aa st (So.aV (E.pa k) (E.one k).M.T [((x.c:Int),So.splice (aE E st x.c) D x.f)] (So.aI (So.ak (E.one k).M.T [((x.c:Int),So.splice (aE E st x.c) D x.f)])))).1,
            (So.aa st (So.aV (E.pa k) (E.one k).M.T [((x.c:Int),So.splice (aE E st x.c) D x.f)] (So.aI (So.ak (E.one k).M.T [((x.c:Int),So.splice (aE E st x.c) D x.f)])))).2⟩:=by
          unfold cj
          rw [he]
          dsimp only
          rw [if_neg j,m,if_neg l]
        rw [v]
        unfold gI
        dsimp only
        refine AW h id x D p hk r o a fun w1 hb=>?_
        refine (MZ (h.below hb) s x d.pc d.n1 D y hk o hinv l (by rw [←C];exact a) d.chunk.1 d.chunk.2).mono ?_
        rintro e w' ⟨rfl,E',hw,A⟩
        exact ⟨rfl,E',hw.below hb,fun c=>c.elim A fun c=>absurd c (AU _ _)⟩
theorem M4 {a j:Nat} (h:∀j,j<n->(raw st (a+j)).length= 64) (b:j<n):So.piece (Dm.span st (17+a) n) j= raw st (a+j):=by
 have e:Dm.span st (17+a) n= So.bI n (λj=>raw st (a+j)):=by unfold Dm.span So.bI;congr 1;exact Ua λi _=>by unfold raw;rw [Vv]
 rw [e];exact So.qx h b
theorem aD.uK (h:aD E st) {j:Nat} (a:j<E.n):(raw st j).length= 64:=by have:=h.form.small;exact Dm.si h.ok _ (by rw [h.dK];omega)
theorem aD.there (h:aD E st) {a n:Nat} (d:a+n<=E.n):Dm.aY st (17+ (a:Int)) (n:Int)= 0/\Dm.aA st (17+ (a:Int)) (n:Int)= Dm.span st (17+a) n:=by
 have c:=h.form.small;have b:Dm.dn st (17+ (a:Int)) (n:Int):=by rw [Dm.fb,h.dK];omega
 refine ⟨by unfold Dm.aY;rw [h.dE.dead,b];rfl,?_⟩;unfold Dm.aA;rw [h.dE.dead,b,show (17+ (a:Int)).toNat= 17+a by omega,GH];rfl
theorem aD.chunk (h:aD E st) {c:Nat} (p:c<Em.parts E.n E.g):Og.cE E.n E.g st c= 0/\(aE E st c).length= 64*E.g/\∀j,j<E.n->j / E.g= c->So.piece (aE E st c) (j % E.g)= raw st j:=by
 have v:=h.form.small;obtain ⟨u,t,o,m⟩:=Og.qM (by omega) p;obtain ⟨s,r⟩:=h.there (a:=Og.at_ E.g c) (n:=Og.ln E.n E.g c) m;have l:Og.cE E.n E.g st c= 0:=s;have k:Og.cX E.n E.g st c= Dm.span st (17+Og.at_ E.g c) (Og.ln E.n E.g c):=r;have b:(Og.cX E.n E.g st c).length= 64*Og.ln E.n E.g c:=by rw [k];exact Dm.po h.ok _ _ (by rw [h.dK];omega)
 have d:aE E st c= Og.cX E.n E.g st c ++ vw (64*E.g - (Og.cX E.n E.g st c).length) 0:=by unfold aE Og.cS;rw [if_pos l]
 refine ⟨l,?_,λj hj hjc=>?_⟩;· rw [d,DC,List.length_replicate,b];have:64*Og.ln E.n E.g c<=64*E.g:=Nat.mul_le_mul_left _ o;omega
 ·have f:=Uf j E.g;rw [hjc,SH]at f;have q:Og.at_ E.g c= c*E.g:=rfl;have hm:j % E.g<E.g:=Tu _ (by omega);have e:j % E.g<Og.ln E.n E.g c:=by unfold Og.ln;omega
  have:So.piece (aE E st c) (j % E.g)= So.piece (Og.cX E.n E.g st c) (j % E.g):=by rw [d];unfold So.piece;rw [List.drop_append_of_le_length (by rw [b];omega),List.take_append_of_le_length (by rw [IV,b];omega)]
  rw [this,k,M4 (λi hi=>h.uK (by omega)) e,show Og.at_ E.g c+j % E.g= j by omega]
theorem M5 (d:E'.n= E.n) (f:E'.g= E.g) (h:aD E st) (m:aD E' st') (e:∀j,j<E.n->raw st' j= raw st j) {c:Nat} (k:c<Em.parts E.n E.g):aE E' st' c= aE E st c:=by
 obtain ⟨t,s,r,l⟩:=Og.qM (by have:=h.form.small;omega) k;have key:Og.cX E.n E.g st' c= Og.cX E.n E.g st c:=by obtain ⟨_,q⟩:=h.there (a:=Og.at_ E.g c) (n:=Og.ln E.n E.g c) l;obtain ⟨_,p⟩:=m.there (a:=Og.at_ E.g c) (n:=Og.ln E.n E.g c) (by rw [d];exact l);unfold Og.cX;rw [q,p];unfold Dm.span;congr 1;refine Ua λi hi=>?_;have hi:=RP.1 hi;have:=e (Og.at_ E.g c+i) (by omega);unfold raw at this;rw [Vv];exact this
 have o:=(h.chunk k).1;have b:=(m.chunk (c:=c) (by rw [d,f];exact k)).1;rw [d,f]at b;unfold aE Og.cS;rw [d,f,o,b,key]
structure uL (E:En) (st:Dm.St) (c:Nat) (d:zL) (k:Nat):Prop where
 done:(So.aa st (aq E c d k)).2= 0
 bE:aD (E.aJ c d k) (So.aa st (aq E c d k)).1
 aS:(So.aa st (aq E c d k)).1.P= []\/(So.aa st (aq E c d k)).1.P= st.P
 off:∀x,(∀i,i<16->(E.one i).t≠0->¬So.cW (E.pa i) x)->Dm.one (So.aa st (aq E c d k)).1 x= Dm.one st x
theorem aD.aJ (h:aD E st) {c:Nat} {d:zL} (u:c≤1048576) (hd:d.length= 64*E.g):∀k,k≤16→uL E st c d k
  | 0,_=>⟨rfl,h, .inr rfl,fun _ _=>rfl⟩
  | k + 1, hk => by
    have l:=h.aJ u hd k (by omega)
    have hlen:=h.form.len
    have e:(E.aJ c d k).one k= E.one k:=by rw [mJ (by omega),if_neg (by omega)]
    have m:(E.aJ c d k).pa k= E.pa k:=tV (by omega) k
    have B:aq E c d (k+1)= aq E c d k ++ fk (E.pa k) (E.one k) c d:=rfl
    have t:E.aJ c d (k+1)= (E.aJ c d k).bL k ((E.one k).saved (E.pa k) c d).M:=by
      show (E.aJ c d k).set k ((E.one k).saved (E.pa k) c d)= (E.aJ c d k).set k _
      rw [e,←tU]
    have f:So.aa st (aq E c d (k+1))= So.aa (So.aa st (aq E c d k)).1 (fk (E.pa k) (E.one k) c d):=by rw [B,So.ia _ l.done]
    by_cases q:(E.one k).dV c= true
    · have n:=q
      unfold Sn.dV at n
      rw [N6,N6,decide_eq_true_eq,Bool.not_eq_true',Option.isNone_iff_eq_none]at n
      obtain ⟨⟨v,w⟩,z⟩:=n
      by_cases r:So.free (E.one k).M.T= 0
      · have j:fk (E.pa k) (E.one k) c d= So.bY (E.pa k):=by unfold fk;rw [if_pos q,if_pos r]
        have s:((E.one k).saved (E.pa k) c d).M= (E.one k).M.eh:=by unfold Sn.saved;rw [if_pos q,if_pos r]
        obtain ⟨a,b,p,o⟩:=l.bE.eh (i:=k) (by omega) (by rw [e];exact v)
        rw [m,e]at b
        rw [m]at a p o
        refine ⟨by rw [f,j];exact a,by rw [f,j,t,s];exact b, .inl (by rw [f,j];exact p),fun x hx=>?_⟩
        rw [f,j,o x (hx k (by omega) (by omega))]
        exact l.off x hx
      · have j:fk (E.pa k) (E.one k) c d= So.aV (E.pa k) (E.one k).M.T [((c:Int),d)] (So.aI (So.ak (E.one k).M.T [((c:Int),d)])):=by unfold fk;rw [if_pos q,if_neg r]
        have s:((E.one k).saved (E.pa k) c d).M= (E.one k).M.du [((c:Int),d)]:=by unfold Sn.saved;rw [if_pos q,if_neg r]
        have y:=(gd E c d k).2.2
        obtain ⟨a,b,p,o⟩:=l.bE.add (i:=k) (by omega) (by rw [e];omega) (by rw [e];exact w) u (by rw [e];exact z) (by rw [y];exact hd) (by rw [e];exact r)
        rw [m,e]at a b p o
        refine ⟨by rw [f,j];exact a,by rw [f,j,t,s];exact b, .inl (by rw [f,j];exact p),fun x hx=>?_⟩
        rw [f,j,o x (hx k (by omega) (by omega))]
        exact l.off x hx
    · have j:fk (E.pa k) (E.one k) c d= []:=by unfold fk;rw [if_neg q]
      have s:((E.one k).saved (E.pa k) c d).M= (E.one k).M:=by unfold Sn.saved;rw [if_neg q]
      have A:(E.aJ c d k).bL k (E.one k).M= E.aJ c d k:=by
        unfold En.bL
        rw [e]
        have:E.aJ c d k= (E.aJ c d k).set k ((E.aJ c d k).one k):=(En.uC (by rw [qw];omega)).symm
        rw [e]at this
        exact this.symm
      rw [j,So.we]at f
      refine ⟨by rw [f],by rw [f,t,s,A];exact l.bE,by rw [f];exact l.aS,by rw [f];exact l.off⟩
theorem uL.raw (h:uL E st c d k) (a:Form E) {j:Nat} (b:j<E.n):raw (So.aa st (aq E c d k)).1 j= Se.raw st j:= h.off _ λi hi h0 hx=>by have:=(a.low hi h0 hx).1;omega
theorem aD.AX (h:aD E st) (m:st.P.length<=68719476736) {c:Nat} (d:c<Em.parts E.n E.g):oF E st c (aE E st c):=by
 have o:=h.form.small;have i:c<=1048576:=by have:=Em.iw E.n E.g;omega
 obtain ⟨p,hd,_⟩:=h.chunk d;refine ⟨h.form.len,d,h.form.pa,h.form.fit,hd,λk hk _=>?_⟩;have f:=h.aJ i hd k hk;obtain ⟨a,b,g⟩:=gd E c (aE E st c) k;have l:c<Em.parts (E.aJ c (aE E st c) k).n (E.aJ c (aE E st c) k).g:=by rw [b,g];exact d
 refine ⟨?_,?_,?_⟩;·
  rcases f.aS with e|e;· rw [e];exact yb _
  ·rw [e];exact m
 ·have:=(f.bE.chunk l).1;rw [b,g]at this;exact this
 ·have:=M5 b g h f.bE (λj hj=>f.raw h.form hj) d;refine Eq.trans ?_ this;show Og.cS E.n E.g (So.aa st (aq E c (aE E st c) k)).1 c= Og.cS (E.aJ c (aE E st c) k).n (E.aJ c (aE E st c) k).g (So.aa st (aq E c (aE E st c) k)).1 c;rw [b,g]
theorem aD.aN (h:aD E st) (hP:st.P.length<=68719476736):Good E st:= ⟨h.form.aj,h.form.len,h.form.pa,h.form.fit,h.form.gen,h.dE.dead,h.dK,hP⟩
def En.cI (E:En) (st:Dm.St) (i j:Nat):zL:=So.view E.g (E.one i).M (raw st) j
def En.aF (E:En) (st:Dm.St) (j:Nat):zL:=if E.al= 0 then raw st j else E.cI st (E.al - 1) j
structure Rel (E:En) (st:Dm.St) (D:Sn.En):Prop where
 a:D.a= E.a
 n:D.n= E.n
 g:D.g= E.g
 len:D.s.length= 16
 aF:D.b= So.bI E.n (E.aF st)
 one:∀i,i<16->(D.one i).s= ((E.one i).t:Int)/\(D.one i).a= ((E.one i).st:Int)/\(D.one i).n= ((E.one i).ln:Int)/\(D.one i).gen= (E.one i).gen
 free:∀i,i<16->(E.one i).t= 0->(D.one i).b= []/\(D.one i).t= []/\(D.one i).inv= false
 aK:∀i,i<16->(E.one i).t≠0->(D.one i).t= (E.one i).M.T/\(D.one i).inv= (E.one i).M.inv
 cI:∀i,i<16->(E.one i).t= 1->(D.one i).b= if (E.one i).M.inv= true then []else So.bI E.n (E.cI st i)
theorem Nk (h:∀j,j<k->(E'.one j).t= (E.one j).t):bZ E' x k= bZ E x k:=by induction k with
 | zero=>rfl
 | succ k ih => show (if bZ E' x k≠0 then bZ E' x k else if (E'.one k).t= x then k+1 else 0)= _;rw [ih λj hj=>h j (by omega),h k (by omega)];rfl
theorem A5 (hl:E.S.length= 16) {i:Nat} (hi:i<16) (M:So.Ms):(E.bL i M).al= E.al:=Nk λj _=>(lz hl hi M j).1
theorem jn (h:E.al≠0):∃i,i<16/\E.al= i+1/\(E.one i).t= 2:=by obtain ⟨i,a,b,c,_⟩:=lp h;exact ⟨i,a,b,c⟩
variable{D:Sn.En}
theorem Nl (h:∀j,j<k->(D.one j).s= ((E.one j).t:Int)):Sn.eA D k= bZ E 2 k:=by induction k with
 | zero=>rfl
 | succ k ih =>
 show (if Sn.eA D k≠0 then Sn.eA D k else if (D.one k).s= 2 then k+1 else 0)= if bZ E 2 k≠0 then bZ E 2 k else if (E.one k).t= 2 then k+1 else 0;rw [ih λj hj=>h j (by omega),h k (by omega)];have e:(((E.one k).t:Int)= 2)↔((E.one k).t= 2):=by omega
 simp only [e]
theorem Rel.al (h:Rel E st D):D.al= E.al:=Nl λj hj=>(h.one j hj).1
theorem Rel.bL (p:Form E) (h:Rel E st D) {i:Nat} (hi:i<16) (t1:(E.one i).t= 1) {M:So.Ms} {x:Sn.One} (m:∀j,j<E.n->raw st' j= raw st j) (y:x.s= (D.one i).s/\x.a= (D.one i).a/\x.n= (D.one i).n/\x.gen= (D.one i).gen) (A:x.t= M.T) (z:x.inv= M.inv) (B:x.b= if M.inv= true then []else So.bI E.n (λj=>So.view E.g M (raw st) j)):Rel (E.bL i M) st' (D.set i x):=by
 have f:=λj=>ku p.len hi M j;have hd:=λj=>Sn.En.one_set (e:=D) (i:=i) (by rw [h.len];exact hi) x j;have l:=λj=>lz p.len hi M j;have hm:=A5 p.len hi M;have q:∀M':So.Ms,So.bI E.n (λj=>So.view E.g M' (raw st') j)= So.bI E.n (λj=>So.view E.g M' (raw st) j):=λM'=>So.eu λj hj=>So.gF λ_=>m j hj;refine ⟨h.a,h.n,h.g,(TB ..).trans h.len,?_,λj hj=>?_,λj hj h0=>?_,λj hj h0=>?_,λj hj h1=>?_⟩;·
  show D.b= So.bI E.n ((E.bL i M).aF st');rw [h.aF];by_cases e:E.al= 0;· refine So.eu λj hj=>?_;unfold En.aF;rw [hm,if_pos e,if_pos e];exact (m j hj).symm
  ·obtain ⟨k,hk,ek,tk⟩:=jn e;have o:i≠k:=λc=>by subst c;omega
   refine So.eu λj hj=>?_;unfold En.aF;rw [hm,if_neg e,if_neg e];unfold En.cI;rw [show E.al - 1= k by omega,f k,if_neg o];exact (So.gF λ_=>m j hj).symm
 ·obtain ⟨a,b,c,d⟩:=l j;rw [hd j,a,b,c,d];split;· rename_i e;subst e;obtain ⟨w,v,u,r⟩:=y;rw [w,v,u,r];exact h.one i hi
  ·exact h.one j hj
 ·rw [(l j).1]at h0;rw [hd j,if_neg (λe=>by subst e;omega)];exact h.free j hj h0
 ·rw [(l j).1]at h0;rw [hd j,f j];split;· exact ⟨A,z⟩
  ·exact h.aK j hj h0
 ·rw [(l j).1]at h1;rw [hd j];unfold En.cI;rw [f j];split;·
   rw [B];split;· rfl
   ·exact (q M).symm
  ·rw [h.cI j hj h1];split;· rfl
   ·exact (q _).symm
theorem Rel.raw (h:Rel E st D) (b:∀j,j<E.n->raw st' j= raw st j):Rel E st' D:=by
 refine ⟨h.a,h.n,h.g,h.len,?_,h.one,h.free,h.aK,λj hj h1=>?_⟩;·
  rw [h.aF];refine So.eu λj hj=>?_;unfold En.aF;split;· exact (b j hj).symm
  ·exact (So.gF λ_=>b j hj).symm
 ·rw [h.cI j hj h1];split;· rfl
  ·exact So.eu λj hj=>(So.gF λ_=>b j hj).symm
theorem jo :Tb.bn m= none↔So.free m= 0:=by rw [Tb.pC];have:(Tb.used m).length<=m.length:=Uw _ _;unfold So.free;omega
theorem aD.uU (h:aD E st) {D:Sn.En} (q:Rel E st D) {c:Nat} (G:c<Em.parts E.n E.g):∀k,k≤16→Rel (E.aJ c (aE E st c) k) (So.aa st (aq E c (aE E st c) k)).1 (Sn.aq D c k)
  | 0,_=>q
  | k + 1, hk => by
    have F:=h.uU q G k (by omega)
    have K:=h.form.small
    have z:c≤1048576:=by have:=Em.iw E.n E.g;omega
    obtain ⟨_,hd,C⟩:=h.chunk G
    have S0:=h.aJ z hd k (by omega)
    have R:=h.aJ z hd (k+1) hk
    have hlen:=h.form.len
    have a:(E.aJ c (aE E st c) k).one k= E.one k:=by rw [mJ (by omega),if_neg (by omega)]
    obtain ⟨S,H,Q⟩:=gd E c (aE E st c) k
    have v:(Sn.aq D c k).one k= D.one k:=by rw [Sn.uS (by rw [q.len];omega),if_neg (by omega)]
    have w:∀j,j< (E.aJ c (aE E st c) k).n→Se.raw (So.aa st (aq E c (aE E st c) (k+1))).1 j= Se.raw (So.aa st (aq E c (aE E st c) k)).1 j:=fun j hj=>by
      rw [H]at hj
      rw [R.raw h.form hj,S0.raw h.form hj]
    have I:E.aJ c (aE E st c) (k+1)= (E.aJ c (aE E st c) k).bL k ((E.one k).saved (E.pa k) c (aE E st c)).M:=by
      show (E.aJ c (aE E st c) k).set k ((E.one k).saved (E.pa k) c (aE E st c))= (E.aJ c (aE E st c) k).set k _
      rw [a,←tU]
    have J:Sn.aq D c (k+1)= if (D.one k).s= 1∧(D.one k).inv= false then (Sn.aq D c k).set k ((D.one k).place c).1 else Sn.aq D c k:=rfl
    by_cases hu:(E.one k).t= 1∧(E.one k).M.inv= false
    · obtain ⟨o,f⟩:=hu
      obtain ⟨A,tv⟩:=q.aK k (by omega) (by omega)
      have r:(D.one k).s= 1∧(D.one k).inv= false:=⟨by rw [(q.one k (by omega)).1,o];rfl,by rw [tv,f]⟩
      rw [I,J,if_pos r]
      have y:=h.form.fit k (by omega) (by omega)
      have l:=q.cI k (by omega) o
      rw [f,if_neg (by decide)]at l
      have x:∀j,j<E.n→Se.raw (So.aa st (aq E c (aE E st c) k)).1 j= Se.raw st j:=fun j hj=>S0.raw h.form hj
      refine F.bL S0.bE.form (by omega) (by rw [a];exact o) w (by rw [v];exact Sn.Nj _ _) ?_ ?_ ?_
      · unfold Sn.One.place Sn.saved Sn.dV
        rw [A,f,o]
        cases hf:Tb.find (E.one k).M.T (c:Int) with
        | some i=>simp [A]
        | none =>
          cases hg:Tb.bn (E.one k).M.T with
          | none=>simp [jo.1 hg,So.Ms.eh]
          | some i =>
            have m:So.free (E.one k).M.T≠0:=fun e=>by rw [jo.2 e]at hg;cases hg
            simp [m,(So.om (c:=(c:Int)) (d:=aE E st c) hg).1]
      · unfold Sn.One.place Sn.saved Sn.dV
        rw [A,f,o]
        cases hf:Tb.find (E.one k).M.T (c:Int) with
        | some i=>simp [tv]
        | none =>
          cases hg:Tb.bn (E.one k).M.T with
          | none=>simp [jo.1 hg,So.Ms.eh]
          | some i =>
            have m:So.free (E.one k).M.T≠0:=fun e=>by rw [jo.2 e]at hg;cases hg
            simp [m,So.Ms.du,tv]
      · rw [H,Q]
        unfold Sn.One.place Sn.saved Sn.dV
        rw [A,o]
        have same:So.bI E.n (fun j=>So.view E.g (E.one k).M (Se.raw (So.aa st (aq E c (aE E st c) k)).1) j)= (D.one k).b:=by
          rw [l]
          exact So.eu fun j hj=>So.gF fun _=>x j hj
        cases hf:Tb.find (E.one k).M.T (c:Int) with
        | some i=>simp [f,same]
        | none =>
          cases hg:Tb.bn (E.one k).M.T with
          | none=>simp [jo.1 hg,f,So.Ms.eh]
          | some i =>
            have m:So.free (E.one k).M.T≠0:=fun e=>by rw [jo.2 e]at hg;cases hg
            simp only [f,m,Yp,Option.isSome_none,decide_true,Yq,Vp,if_true,if_false,Bool.false_eq_true]
            have B:((E.one k).M.du [((c:Int),aE E st c)]).inv= false:=f
            rw [B,if_neg (by decide),l]
            refine So.eu fun j hj=>?_
            rw [So.gF (u:=Se.raw st) fun _=>x j hj]
            exact (So.yQ (p:=E.pa k) y (by have:=K.2.2.1;exact this) hg (by omega) hf fun e=>C j hj e).symm
    · have L:(E.one k).dV c= false:=by
        unfold Sn.dV
        by_cases o:(E.one k).t= 1
        · have f:(E.one k).M.inv:=by
            cases f:(E.one k).M.inv with
            | true=>rfl
            | false=>exact absurd ⟨o,f⟩ hu
          simp [f]
        · simp [o]
      have P:((E.one k).saved (E.pa k) c (aE E st c)).M= (E.one k).M:=by unfold Sn.saved;rw [if_neg (by rw [L];decide)]
      have O:(E.aJ c (aE E st c) k).bL k (E.one k).M= E.aJ c (aE E st c) k:=by
        unfold En.bL
        rw [a]
        have:E.aJ c (aE E st c) k= (E.aJ c (aE E st c) k).set k ((E.aJ c (aE E st c) k).one k):=(En.uC (by rw [qw];omega)).symm
        rw [a]at this
        exact this.symm
      have r:¬((D.one k).s= 1∧(D.one k).inv= false):=fun c=>by
        have h1:(E.one k).t= 1:=by have:=c.1;rw [(q.one k (by omega)).1]at this;omega
        have N:=(q.aK k (by omega) (by omega)).2
        exact hu ⟨h1,by rw [←N];exact c.2⟩
      rw [I,P,O,J,if_neg r]
      exact F.raw w
theorem Nn (h:Form E) {c:Nat} {d:zL} (l:c<=1048576) {i:Nat} (hi:i<16) (t1:(E.one i).t= 1) (a:((E.aJ c d 16).one i).M.inv= false):Tb.find ((E.aJ c d 16).one i).M.T (c:Int)≠none:=by rw [mJ (by rw [h.len];omega),if_pos hi]at a⊢;unfold Sn.saved Sn.dV at a⊢;rw [t1]at a⊢;cases hv0:(E.one i).M.inv with
 | true=>simp [hv0]at a
 | false => have b:=h.fit i hi (by omega);cases hf:Tb.find (E.one i).M.T (c:Int) with
 | some k=>simp [hf]
 | none => cases hg:Tb.bn (E.one i).M.T with
 | none=>simp [hv0,hf,jo.1 hg,So.Ms.eh]at a
 | some k =>
 have g:So.free (E.one i).M.T≠0:=λe=>by rw [jo.2 e]at hg;cases hg
 obtain ⟨⟨y,j,f⟩,_⟩:=Tb.jw.1 hg;simp only [g,Yp,decide_true,Yq,Vp,if_true,if_false];rw [(So.om hg).1,So.tX b.tok j f (by omega) (by omega) (Tb.ic.1 hf (by omega)) _ (by omega),if_pos rfl];simp
def Us (E:En) (id:Int):Prop:=id= 0\/∃k:Nat,k<16/\id= (k:Int) +1/\(E.one k).t= 1/\(E.one k).M.inv= false
theorem rj {f j:Nat} (h:1<=g) (d:f+n<=g):(j / g= c/\f<=j % g/\j % g<f+n)↔(c*g+f<=j/\j<c*g+f+n):=by
 have a:=Uf j g;constructor;· rintro ⟨e,h1,b⟩;rw [e,SH]at a;omega
 ·rintro ⟨h1,b⟩;have e:j / g= c:=by
   have a1:c*g<=j:=by omega
   have a2:j< (c+1) *g:=by rw [Nat.add_mul];omega
   have b1:=(Nat.le_div_iff_mul_le (by omega:0<g)).2 a1;have b2:=(Nat.div_lt_iff_lt_mul (by omega:0<g)).2 a2;omega
  rw [e,SH]at a;exact ⟨e,by omega,by omega⟩
theorem A7 {f j:Nat} (h:j / g= c) (b:f<=j % g):j % g - f= j - (c*g+f):=by have a:=Uf j g;rw [h,SH]at a;omega
theorem uV {f:Nat} (l:1<=g) {v v':Nat->List UInt8} (o:∀j,j<n->(v j).length= 64) {d:zL} {m:Nat} (hd:d.length= 64*m) (e:f+m<=g) (i:c*g+f+m<=n) (h:∀j,j<n->v' j= if j / g= c/\f<=j % g/\j % g<f+m then So.piece d (j % g - f) else v j):So.bI n v'= So.splice (So.bI n v) d (c*g+f):=by
 rw [<-So.Jp o (a:=c*g+f) (d:=d) (by omega) (by omega)];refine So.eu λj hj=>?_;rw [h j hj,show d.length / 64= m by omega];by_cases b:j / g= c/\f<=j % g/\j % g<f+m;· rw [if_pos b,if_pos ((rj l e).1 b),A7 b.1 b.2.1]
 ·rw [if_neg b,if_neg λk=>b ((rj l e).2 k)]
variable{M:So.Ms}
theorem Np (m:So.Fit p M) (o:1<=p.g) {c:Nat} {d:zL} {i:Nat} (a:Tb.bn M.T= some i) (k:c<=2147483646) (l:Tb.find M.T (c:Int)= none) (u:Nat->List UInt8) (j:Nat): So.view p.g (M.du [((c:Int),d)]) u j= if j / p.g= c then So.piece d (j % p.g) else So.view p.g M u j:=by
 obtain ⟨q,s⟩:=So.om (c:=(c:Int)) (d:=d) a;obtain ⟨⟨y,n,f⟩,_⟩:=Tb.jw.1 a;have h:=Tb.ic.1 l (by omega);have b:=So.tX m.tok n f (c:=(c:Int)) (by omega) (by omega) h ((j / p.g:Nat):Int) (WV _);rw [<-q]at b;have key:=So.yQ (p:=p) m o a k l (d:=d) (u:=λj=>if j / p.g= c then So.piece d (j % p.g) else u j) (j:=j) (λe=>by show _= if j / p.g= c then _ else _;rw [if_pos e]);have r:So.view p.g (M.du [((c:Int),d)]) u j= So.view p.g (M.du [((c:Int),d)]) (λj=>if j / p.g= c then So.piece d (j % p.g) else u j) j:=So.gF λhn=>by
  by_cases e:j / p.g= c;· rw [if_pos (by rw [e])]at b;rw [b]at hn;cases hn
  ·show u j= if j / p.g= c then _ else _;rw [if_neg e]
 rw [r,key];by_cases e:j / p.g= c;· rw [if_pos e,So.gE (by rw [e];exact l)];show (if j / p.g= c then _ else _)= _;rw [if_pos e]
 ·rw [if_neg e];refine So.gF λ_=>?_;show (if j / p.g= c then _ else _)= _;rw [if_neg e]
theorem aD.rl (h:aD E st) {i:Nat} (hi:i<16) (b:(E.one i).t≠0) {j:Nat} (a:j<E.n):(E.cI st i j).length= 64:= So.Js (p:=E.pa i) (h.form.fit i hi b) (by have:=h.form.small;exact this.2.2.1) (h.uK a)
theorem aD.A8 (h:aD E st) {j:Nat} (a:j<E.n):(E.aF st j).length= 64:=by
 unfold En.aF;split;· exact h.uK a
 ·rename_i e;obtain ⟨k,hk,ek,tk⟩:=jn e;rw [show E.al - 1= k by omega];exact h.rl hk (by omega) a
theorem Rel.Nq (m:Form E) (h:Rel E st D) {i:Nat} (hi:i<16) (t2:(E.one i).t= 2) {M:So.Ms} (p:∀j,j<E.n->Se.raw st' j= Se.raw st j) (u:M.T= (E.one i).M.T) (r:M.inv= (E.one i).M.inv) {b:zL} (s:b= So.bI E.n (λj=>So.view E.g M (Se.raw st) j)):Rel (E.bL i M) st' (D.dF b):=by
 have f:=λj=>ku m.len hi M j;have l:=λj=>lz m.len hi M j;have hm:=A5 m.len hi M;have q:E.al≠0:=λe=>nS e i hi t2;have v:E.al - 1= i:=by obtain ⟨k,hk,ek,tk⟩:=jn q;have:=m.two i k hi hk t2 tk;omega
 refine ⟨h.a,h.n,h.g,h.len,?_,λj hj=>?_,λj hj h0=>?_,λj hj h0=>?_,λj hj h1=>?_⟩;· show b= _;rw [s];refine So.eu λj hj=>?_;unfold En.aF;rw [hm,if_neg q,v];unfold En.cI;rw [f i,if_pos rfl];exact (So.gF λ_=>p j hj).symm
 ·obtain ⟨a,b,c,d⟩:=l j;rw [a,b,c,d];exact h.one j hj
 ·rw [(l j).1]at h0;exact h.free j hj h0
 ·rw [(l j).1]at h0;rw [f j];split;· rename_i e;subst e;rw [u,r];exact h.aK i hi h0
  ·exact h.aK j hj h0
 ·rw [(l j).1]at h1;have o:i≠j:=λe=>by subst e;omega
  show (D.one j).b= _;unfold En.cI;rw [f j,if_neg o,h.cI j hj h1];split;· rfl
  ·exact So.eu λx hx=>(So.gF λ_=>p x hx).symm
theorem Rel.Nr (u:aD E st) (h:Rel E st D) {x:Em.Pc} (o:fJ E x) {d:zL} (hd:d.length= 64*x.n) (s:∀j,Se.raw st' j= if x.c*E.g+x.f<=j/\j<x.c*E.g+x.f+d.length / 64 then So.piece d (j - (x.c*E.g+x.f)) else Se.raw st j) (v:∀i,i<16->(E.one i).t= 1->(E.one i).M.inv= false->Tb.find (E.one i).M.T (x.c:Int)≠none) (hm:∀i,i<16->(E.one i).t= 2->Tb.find (E.one i).M.T (x.c:Int)= none):Rel E st' (D.dF (So.splice D.b d (x.c*E.g+x.f))):=by
 have q:=u.form.small.2.2.1;have r:d.length / 64= x.n:=by omega
 rw [r]at s;have m:∀j,Se.raw st' j= if j / E.g= x.c/\x.f<=j % E.g/\j % E.g<x.f+x.n then So.piece d (j % E.g - x.f) else Se.raw st j:=λj=>by
  rw [s j];by_cases l:j / E.g= x.c/\x.f<=j % E.g/\j % E.g<x.f+x.n;· rw [if_pos l,if_pos ((rj q o.chunk).1 l),A7 l.1 l.2.1]
  ·rw [if_neg l,if_neg λk=>l ((rj q o.chunk).2 k)]
 refine ⟨h.a,h.n,h.g,h.len,?_,h.one,h.free,h.aK,λj hj h1=>?_⟩;·
  show So.splice D.b d _= _;rw [h.aF];refine (uV q (λj hj=>u.A8 hj) hd o.chunk o.low λj hj=>?_).symm;unfold En.aF;split;· exact m j
  ·rename_i e;obtain ⟨k,hk,ek,tk⟩:=jn e;rw [show E.al - 1= k by omega];unfold En.cI;by_cases l:j / E.g= x.c/\x.f<=j % E.g/\j % E.g<x.f+x.n;· rw [if_pos l,So.gE (by rw [l.1];exact hm k hk tk),m j,if_pos l]
   ·rw [if_neg l];exact So.gF λ_=>by rw [m j,if_neg l]
 ·show (D.one j).b= _;rw [h.cI j hj h1];split;· rfl
  ·rename_i p;have p:(E.one j).M.inv= false:=by simpa using p
   refine So.eu λk hk=>(So.gF λhn=>?_).symm;rw [m k,if_neg λl=>v j hj h1 p (by rw [<-l.1];exact hn)]
structure Ns (E:En) (st:Dm.St) (D:Sn.En) (id:Int) (x:Em.Pc) (d:zL):Prop where
 bE:aD (cj E st id x d).E (cj E st id x d).st
 rel:Rel (cj E st id x d).E (cj E st id x d).st (D.piece id x d).1
 aS:(cj E st id x d).st.P.length<=st.P.length+x.n
 low:(cj E st id x d).E.a= E.a/\(cj E st id x d).E.n= E.n/\(cj E st id x d).E.g= E.g
 how:((D.piece id x d).2= true/\(cj E st id x d).x= 0/\Us (cj E st id x d).E id)\/((D.piece id x d).2= false/\(cj E st id x d).x= 162/\(cj E st id x d).st.P= [])
theorem A9 {c:Int} (h:Tb.find M.aK c= some i):M.inv= false/\Tb.find M.T c= some i:=by unfold So.Ms.aK at h;cases hi:M.inv with
 | true=>rw [hi,if_pos rfl]at h;simp [Tb.find]at h
 | false=>rw [hi,if_neg (by decide)]at h;exact ⟨rfl,h⟩
theorem Nt (hi:i<16) (t2:(E.one i).t= 2):E.al≠0:=λe=>nS e i hi t2
theorem uW (a:Form E) {i:Nat} (hi:i<16) (t2:(E.one i).t= 2):E.al= i+1:=by obtain ⟨k,hk,ek,tk⟩:=jn (Nt hi t2);have:=a.two i k hi hk t2 tk;omega
theorem aD.Nu (h:aD E st) {D:Sn.En} (s:Rel E st D) {id:Int} (hu:Us E id) {x:Em.Pc} (hx:fJ E x) (bl:1≤x.n) {d:zL} (hd:d.length= 64*x.n):Ns E st D id x d:=by
  have hs:=h.form.small
  have hg:=hs.2.2.1
  have G:=hx.low
  have V:=hx.chunk
  have J:d.length / 64= x.n:=by omega
  have hc:x.c<Em.parts E.n E.g:=(Em.kL (by omega)).2 (by omega)
  have U:x.c≤1048576:=by have:=Em.iw E.n E.g;omega
  have v:Sn.kH D x= x.c*E.g+x.f:=by unfold Sn.kH;rw [s.g]
  cases hex:E.dO id x.c with
  | some i =>
    have q:=hex
    unfold En.dO at q
    cases N:E.has (E.aW id) with
    | false=>rw [N]at q;cases q
    | true =>
      rw [N,if_pos rfl]at q
      obtain ⟨k,hk,e1,u⟩:=cO.1 N
      have ek:(E.aW id - 1).toNat= k:=by omega
      rw [ek]at q
      obtain ⟨B,K⟩:=A9 q
      obtain ⟨_,hq,_⟩:=Tb.iz.1 K
      obtain ⟨a,b,p,o⟩:=h.eJ hk u hq (by omega) (by omega:d.length % 64= 0) (k:=x.f) (by omega)
      have l:cj E st id x d= ⟨E.bL k ((E.one k).M.eJ i x.f d),(So.aa st [So.cV (E.pa k) i x.f d]).1,(So.aa st [So.cV (E.pa k) i x.f d]).2⟩:=by
        unfold cj
        rw [hex,ek]
        rfl
      have hr:∀j,j<E.n→Se.raw (So.aa st [So.cV (E.pa k) i x.f d]).1 j= Se.raw st j:=fun j hj=>aD.ua h.form hk u o hj
      have I:=h.form.fit k hk u
      have ba:∀j,So.view E.g ((E.one k).M.eJ i x.f d) (Se.raw st) j= if j / E.g= x.c∧x.f≤j % E.g∧j % E.g<x.f+x.n then So.piece d (j % E.g - x.f) else E.cI st k j:=fun j=>by
        have:=So.Jt (p:=E.pa k) I hg K (by omega:d.length % 64= 0) (k:=x.f) (by show x.f+d.length / 64≤E.g;omega) (Se.raw st) j
        rw [J]at this
        exact this
      have af:So.bI E.n (fun j=>So.view E.g ((E.one k).M.eJ i x.f d) (Se.raw st) j)= So.splice (So.bI E.n (E.cI st k)) d (x.c*E.g+x.f):=
        uV hg (fun j hj=>h.rl hk u hj) hd V G fun j _=>ba j
      rcases hu with rfl|⟨r,bo,e2,y,bg⟩
      · have em:E.aW 0= (E.al:Int):=by unfold En.aW;rw [if_pos rfl]
        have W:E.al= k+1:=by omega
        have t2:(E.one k).t= 2:=by
          obtain ⟨k3,bm,e3,t3⟩:=jn (E:=E) (by omega)
          rw [show k= k3 by omega];exact t3
        have F:D.own x.c= false:=by
          unfold Sn.En.own
          rw [s.al,W,show k+1 - 1= k by omega,(s.aK k hk u).1,K]
          simp
        have m:D.piece 0 x d= (D.dF (So.splice D.b d (x.c*E.g+x.f)),true):=by
          unfold Sn.En.piece
          rw [if_pos rfl,F,v]
          rfl
        refine ⟨by rw [l];exact b,?_,by rw [l];simpa [J] using p,by rw [l];exact ⟨rfl,rfl,rfl⟩, .inl ⟨by rw [m],by rw [l];exact a, .inl rfl⟩⟩
        rw [l,m]
        refine s.Nq h.form hk t2 (M:=(E.one k).M.eJ i x.f d) hr rfl rfl ?_
        have heq:So.bI E.n (E.aF st)= So.bI E.n (E.cI st k):=So.eu fun j _=>by
          unfold En.aF
          rw [if_neg (by omega),show E.al - 1= k by omega]
        rw [af,s.aF,heq]
      · have em:E.aW id= id:=by unfold En.aW;rw [if_neg (by omega)]
        obtain rfl:r= k:=by omega
        have W:(id - 1).toNat= r:=by omega
        have C:(D.one r).place x.c= (D.one r,true):=by
          unfold Sn.One.place
          rw [(s.aK r hk u).1,K]
          rfl
        have m:D.piece id x d= (D.set r {D.one r with b:=So.splice (D.one r).b d (x.c*E.g+x.f)},true):=by
          unfold Sn.En.piece
          rw [if_neg (by omega),W,C,v]
          rfl
        refine ⟨by rw [l];exact b,?_,by rw [l];simpa [J] using p,by rw [l];exact ⟨rfl,rfl,rfl⟩, .inl ⟨by rw [m],by rw [l];exact a, .inr ⟨r,hk,e2,?_⟩⟩⟩
        · rw [l,m]
          refine s.bL h.form hk y hr ⟨rfl,rfl,rfl,rfl⟩ (s.aK r hk u).1 (s.aK r hk u).2 ?_
          show So.splice (D.one r).b d _= _
          have A:((E.one r).M.eJ i x.f d).inv= false:=B
          rw [A,if_neg (by decide),af,s.cI r hk y,B,if_neg (by decide)]
        · rw [l]
          show ((E.bL r _).one r).t= 1∧((E.bL r _).one r).M.inv= false
          rw [ku h.form.len hk,if_pos rfl]
          exact ⟨y,B⟩
  | none =>
    obtain ⟨bq,ad,bf⟩:=h.chunk hc
    rcases hu with rfl|⟨k,hk,e2,y,B⟩
    · have S:=h.aJ U ad 16 (nm _)
      have RS:Rel (E.aJ x.c (aE E st x.c) 16) (So.aa st (aq E x.c (aE E st x.c) 16)).1 (D.save x.c):=h.uU s hc 16 (nm _)
      have z:=fun i=>mJ (E:=E) (c:=x.c) (d:=aE E st x.c) (k:=16) (by rw [h.form.len];exact nm _) i
      have Y:=fun i (hi:i<16) (y:(E.one i).t= 1) B=>Nn (d:=aE E st x.c) h.form U hi y B
      have Q:So.aa st (aq E x.c (aE E st x.c) 16 ++ [jR E x d])= So.aa (So.aa st (aq E x.c (aE E st x.c) 16)).1 [.wr (17+ (x.c*E.g+x.f)) d]:=by rw [So.ia _ S.done];rfl
      obtain ⟨ea,en,eg⟩:=gd E x.c (aE E st x.c) 16
      have l:cj E st 0 x d= ⟨E.aJ x.c (aE E st x.c) 16,(So.aa (So.aa st (aq E x.c (aE E st x.c) 16)).1 [.wr (17+ (x.c*E.g+x.f)) d]).1,(So.aa (So.aa st (aq E x.c (aE E st x.c) 16)).1 [.wr (17+ (x.c*E.g+x.f)) d]).2⟩:=by
        unfold cj
        rw [hex]
        dsimp only
        rw [if_pos rfl,Q]
      have SE:=S.bE
      have SF:=S.aS
      have X:=fun i=>(yM (E.pa i) (E.one i) x.c (aE E st x.c)).1
      have ao:∀i,(E.one i).t= 2→((E.one i).saved (E.pa i) x.c (aE E st x.c)).M= (E.one i).M:=fun i ht=>by
        unfold Sn.saved Sn.dV
        rw [if_neg (by simp [ht])]
      clear Q S
      generalize aE E st x.c= ch at *
      generalize E.aJ x.c ch 16= E1 at *
      generalize (So.aa st (aq E x.c ch 16)).1= st1 at *
      have aw:fJ E1 x:=⟨by rw [en,eg];exact G,by rw [eg];exact V⟩
      obtain ⟨a,b,p,o⟩:=SE.aF (k:=x.c*E.g+x.f) (d:=d) (by omega) (by rw [en];omega)
      have Z:∀i,i<16→(E.one i).t= 2→Tb.find (E.one i).M.T (x.c:Int)= none:=fun i hi t2=>by
        have em:=uW h.form hi t2
        have ef:E.aW 0= (i:Int) +1:=by unfold En.aW;rw [if_pos rfl,em];omega
        have N:E.has (E.aW 0):=cO.2 ⟨i,hi,ef,by omega⟩
        unfold En.dO at hex
        rw [N,if_pos rfl,show (E.aW 0 - 1).toNat= i by omega]at hex
        unfold So.Ms.aK at hex
        rw [h.form.val i hi t2,if_neg (by decide)]at hex
        exact hex
      have F:D.own x.c:=by
        unfold Sn.En.own
        rw [s.al]
        by_cases e:E.al= 0
        · simp [e]
        · obtain ⟨i,hi,ei,t2⟩:=jn e
          rw [ei,show i+1 - 1= i by omega,(s.aK i hi (by omega)).1,Z i hi t2]
          simp
      have m:D.piece 0 x d= ((D.save x.c).dF (So.splice (D.save x.c).b d (x.c*E.g+x.f)),true):=by
        unfold Sn.En.piece
        rw [if_pos rfl,F,v,if_pos rfl,show (D.save x.c).b= D.b from (Sn.uT D x.c 16).2.2.2]
      have h1:∀i,i<16→(E1.one i).t= 1→(E1.one i).M.inv= false→Tb.find (E1.one i).M.T (x.c:Int)≠none:=fun i hi ht A=>by
        have w:=ht
        rw [z,if_pos hi,X i]at w
        exact Y i hi w A
      have h2:∀i,i<16→(E1.one i).t= 2→Tb.find (E1.one i).M.T (x.c:Int)= none:=fun i hi ht=>by
        have w:=ht
        rw [z,if_pos hi,X i]at w
        rw [z,if_pos hi,ao i w]
        exact Z i hi w
      have RO:=RS.Nr SE aw hd (st':=(So.aa st1 [.wr (17+ (x.c*E.g+x.f)) d]).1) (fun j=>by rw [eg];exact o j) h1 h2
      rw [eg]at RO
      have ab:(So.aa st1 [.wr (17+ (x.c*E.g+x.f)) d]).1.P.length≤st.P.length+x.n:=by
        refine A6 p ?_
        rw [J]
        rcases SF with e|e
        · rw [e];simp
        · rw [e];exact nm _
      refine ⟨by rw [l];exact b,by rw [l,m];exact RO,by rw [l];exact ab,by rw [l];exact ⟨ea,en,eg⟩, .inl ⟨by rw [m],by rw [l];exact a, .inl rfl⟩⟩
    · have em:E.aW id= id:=by unfold En.aW;rw [if_neg (by omega)]
      have u:(E.one k).t≠0:=by omega
      have ek:(id - 1).toNat= k:=by omega
      have K:Tb.find (E.one k).M.T (x.c:Int)= none:=by
        unfold En.dO at hex
        rw [em,cO.2 ⟨k,hk,e2,u⟩,if_pos rfl,ek]at hex
        unfold So.Ms.aK at hex
        rw [B,if_neg (by decide)]at hex
        exact hex
      have I:=h.form.fit k hk u
      obtain ⟨tT,tv⟩:=s.aK k hk u
      have O:=s.cI k hk y
      rw [B,if_neg (by decide)]at O
      by_cases H:So.free (E.one k).M.T= 0
      · obtain ⟨a,b,p,o⟩:=h.eh hk y
        have l:cj E st id x d= ⟨E.bL k (E.one k).M.eh,(So.aa st (So.bY (E.pa k))).1,162⟩:=by
          unfold cj
          rw [hex]
          dsimp only
          rw [if_neg (by omega),ek,if_pos H,a,if_pos rfl]
          rfl
        have C:(D.one k).place x.c= ({D.one k with inv:=true,t:=vw (E.one k).M.T.length (-1),b:= []},false):=by
          unfold Sn.One.place
          rw [tT,K,jo.2 H]
          rfl
        have m:D.piece id x d= (D.set k {D.one k with inv:=true,t:=vw (E.one k).M.T.length (-1),b:= []},false):=by
          unfold Sn.En.piece
          rw [if_neg (by omega),ek,C]
          rfl
        refine ⟨by rw [l];exact b,?_,by rw [l];show (So.aa st (So.bY (E.pa k))).1.P.length≤_;rw [p];exact yb _,by rw [l];exact ⟨rfl,rfl,rfl⟩, .inr ⟨by rw [m],by rw [l],by rw [l];exact p⟩⟩
        rw [l,m]
        exact s.bL h.form hk y (fun j hj=>aD.ua h.form hk u o hj) ⟨rfl,rfl,rfl,rfl⟩ rfl rfl rfl
      · obtain ⟨gi,R⟩:∃gi,Tb.bn (E.one k).M.T= some gi:=by
          cases hg0:Tb.bn (E.one k).M.T with
          | none=>exact absurd (jo.1 hg0) H
          | some i=>exact ⟨i,rfl⟩
        have bb:(So.splice (aE E st x.c) d x.f).length= 64*E.g:=by rw [So.pU (by omega),ad]
        obtain ⟨a,b,p,o⟩:=h.add hk u B U K bb H
        have l:cj E st id x d= ⟨E.bL k ((E.one k).M.du [((x.c:Int),So.splice (aE E st x.c) d x.f)]),(So.aa st (So.aV (E.pa k) (E.one k).M.T [((x.c:Int),So.splice (aE E st x.c) d x.f)] (So.aI (So.ak (E.one k).M.T [((x.c:Int),So.splice (aE E st x.c) d x.f)])))).1,
            (So.aa st (So.aV (E.pa k) (E.one k).M.T [((x.c:Int),So.splice (aE E st x.c) d x.f)] (So.aI (So.ak (E.one k).M.T [((x.c:Int),So.splice (aE E st x.c) d x.f)])))).2⟩:=by
          unfold cj
          rw [hex]
          dsimp only
          rw [if_neg (by omega),ek,if_neg H]
          rfl
        have C:(D.one k).place x.c= ({D.one k with t:=(E.one k).M.T.set gi (x.c:Int)},true):=by
          unfold Sn.One.place
          rw [tT,K,R]
          rfl
        have m:D.piece id x d= (D.set k {D.one k with t:=(E.one k).M.T.set gi (x.c:Int),b:=So.splice (D.one k).b d (x.c*E.g+x.f)},true):=by
          unfold Sn.En.piece
          rw [if_neg (by omega),ek,C,v]
          rfl
        refine ⟨by rw [l];exact b,?_,by rw [l];show (So.aa st _).1.P.length≤_;rw [p];exact yb _,by rw [l];exact ⟨rfl,rfl,rfl⟩, .inl ⟨by rw [m],by rw [l];exact a, .inr ⟨k,hk,e2,?_⟩⟩⟩
        · rw [l,m]
          refine s.bL h.form hk y (fun j hj=>aD.ua h.form hk u o hj) ⟨rfl,rfl,rfl,rfl⟩ (So.om R).1.symm tv ?_
          have A:((E.one k).M.du [((x.c:Int),So.splice (aE E st x.c) d x.f)]).inv= false:=B
          rw [A,if_neg (by decide)]
          show So.splice (D.one k).b d _= _
          rw [O]
          refine (uV hg (fun j hj=>h.rl hk u hj) hd V G fun j hj=>?_).symm
          rw [show So.view E.g ((E.one k).M.du [((x.c:Int),So.splice (aE E st x.c) d x.f)]) (Se.raw st) j= _ from Np (p:=E.pa k) I hg R (by omega) K (Se.raw st) j]
          show (if j / E.g= x.c then So.piece (So.splice (aE E st x.c) d x.f) (j % E.g) else So.view E.g (E.one k).M (Se.raw st) j)= _
          by_cases e:j / E.g= x.c
          · rw [if_pos e,So.pV (by omega) (by omega),J]
            by_cases L:x.f≤j % E.g∧j % E.g<x.f+x.n
            · rw [if_pos L,if_pos ⟨e,L⟩]
            · rw [if_neg L,if_neg fun N=>L N.2,bf j hj e]
              unfold En.cI
              rw [So.gE (by rw [e];exact K)]
          · rw [if_neg e,if_neg fun N=>e N.1]
            rfl
        · rw [l]
          show ((E.bL k _).one k).t= 1∧((E.bL k _).one k).M.inv= false
          rw [ku h.form.len hk,if_pos rfl]
          exact ⟨y,B⟩
open Go.RowKit
def bW (ps:List Em.Pc) (k:Nat):Nat:=((ps.take k).map Em.Pc.n).sum
theorem oN (h:k<ps.length):bW ps (k+1)= bW ps k+ps[k].n:=by unfold bW;rw [TD h,R0,List.sum_append];simp
def eX (ps:List Em.Pc) (D:zL) (k:Nat):zL:=(D.drop (64*bW ps k)).take (64* (ps.getD k ⟨0,0,0⟩).n)
def aC (E:En) (st:Dm.St) (id:Int) (ps:List Em.Pc) (D:zL):Nat->Wr
 | 0=>⟨E,st,0⟩
 | k+1=>if (aC E st id ps D k).x≠0 then aC E st id ps D k else cj (aC E st id ps D k).E (aC E st id ps D k).st id (ps.getD k ⟨0,0,0⟩) (eX ps D k)
def cZ (E:En) (st:Dm.St) (id:Int) (ps:List Em.Pc) (D:zL):Wr:= if (aC E st id ps D ps.length).x≠0 then aC E st id ps D ps.length else ⟨(aC E st id ps D ps.length).E,(So.step (aC E st id ps D ps.length).st .fl).1,(So.step (aC E st id ps D ps.length).st .fl).2⟩
theorem Nv {D:zL} (h:(aC E st id ps D k).x≠0) (n:Nat):aC E st id ps D (k+n)= aC E st id ps D k:=by induction n with
 | zero=>rfl
 | succ n ih => show (if (aC E st id ps D (k+n)).x≠0 then aC E st id ps D (k+n) else _)= _;rw [ih,if_pos h]
theorem Nw {D:zL} (hk:k<=ps.length) (h:(aC E st id ps D k).x≠0):cZ E st id ps D= aC E st id ps D k:=by have:=Nv h (ps.length - k);rw [show k+ (ps.length - k)= ps.length by omega]at this;unfold cZ;rw [this,if_pos h]
theorem br.cell (h:br B E B' E' w w') {g:Nat} (hg:g<w.heap.size) (hn:¬B.fp E g) (j:Nat):w'.cell? (zD g j)= w.cell? (zD g j):=So.gV (p:=(zD g j)) (h.fr.block g hg hn)
def Own (W:World) (B:Eb) (E:En) (g:Nat):Prop:=g<W.heap.size/\¬B.fp E g
structure dN (B:Eb) (E:En) (st:Dm.St) (id:Int) (ps:List Em.Pc) (D:zL) (W:World) (k:Nat) (B':Eb) (wr:World):Prop where
 ok:(aC E st id ps D k).x= 0
 ek:Ek wr B' (aC E st id ps D k).E (aC E st id ps D k).st
 ez:br B E B' (aC E st id ps D k).E W wr
theorem Nx (h:Ek W B E st) (id:Int) {ps:List Em.Pc} (D:zL) (hD:D.length= 64*bW ps ps.length) (ba:D.length<=1073741824) {v:Value} {g0 g1 g2 g3:Nat} (hl:ps.length<=1048576) (hv:∃p g c,v= .slice p ps.length c/\(ps≠ []->p= some ⟨g,0,none⟩/\Own W B E g)/\∀i (hi:i<ps.length),W.cell? ⟨g,i*3,none⟩= some (zI (ps[i].c:Int))/\W.cell? ⟨g,i*3+1,none⟩= some (zI (ps[i].f:Int))/\W.cell? ⟨g,i*3+2,none⟩= some (zI (ps[i].n:Int))) (l2:Own W B E g2) (l3:Own W B E g3) (c0:W.cell? (zD g0 0)= some (.string (Om.B D))) (c1:W.cell? (zD g1 0)= some v) (c2:W.cell? (zD g2 0)= some (zP B.q)) (c3:W.cell? (zD g3 0)= some (zI id)) (hw:∀k (hk:k<ps.length),(aC E st id ps D k).x= 0->lH (aC E st id ps D k).E (aC E st id ps D k).st id ps[k]) (C:(aC E st id ps D ps.length).x= 0->(aC E st id ps D ps.length).st.P.length<=1099511627776): zF 53 #[zP g0,zP g1,zP g2,zP g3] W (gI B E (cZ E st id ps D) W):=by
 obtain ⟨p,gp,cp,rfl,ad,ao⟩:=hv;have bS:Hid (∀m E' wr,br B E m E' W wr->∀i (hi:i<ps.length),p= some ⟨gp,0,none⟩/\wr.cell? ⟨gp,i*3,none⟩= some (zI (ps[i].c:Int))/\wr.cell? ⟨gp,i*3+1,none⟩= some (zI (ps[i].f:Int))/\wr.cell? ⟨gp,i*3+2,none⟩= some (zI (ps[i].n:Int))):=hT λm E' wr hs i hi=>by obtain ⟨e,d,K⟩:=ad (λc=>by rw [c]at hi;simp at hi);obtain ⟨a,b,c⟩:=ao i hi;exact ⟨e,(hs.cell d K _).trans a,(hs.cell d K _).trans b,(hs.cell d K _).trans c⟩
 have HC:Hid (∀m E' wr,br B E m E' W wr->wr.cell? (zD g2 0)= some (zP B.q)/\wr.cell? (zD g3 0)= some (zI id)):=hT λm E' wr hs=>⟨(hs.cell l2.1 l2.2 0).trans c2,(hs.cell l3.1 l3.2 0).trans c3⟩;have H0:Hid (dN B E st id ps D W 0 B W):=hT ⟨rfl,h,br.refl _ _ _⟩;have HW:=hT hw;have HE:=hT C;have HD:=hT hD;have bP:=hT ba;have HO:Hid (∀k,k<=ps.length->bW ps k<=bW ps ps.length):=hT λk hk=>by
  have:∀n,k+n<=ps.length->bW ps k<=bW ps (k+n):=λn=>by induction n with
   | zero=>intro _;exact nm _
   | succ n ih => intro hn;have h1:=ih (by omega);have h2:=oN (ps:=ps) (k:=k+n) (by omega);rw [show k+ (n+1)= k+n+1 by omega,h2];omega
  have:=this (ps.length - k) (by omega);rw [show k+ (ps.length - k)= ps.length by omega]at this;exact this
 clear h hw C ad ao l2 l3 c2 c3 hD ba;go_enter func53,ntmps53;go_wp2_with fail;go_loopw [11,4] (λi r wr=>∃k:Nat,i= zI k/\k<=ps.length/\r= .string (Om.B (D.drop (64*bW ps k)))/\∃m,Hid (dN B E st id ps D W k m wr)) (λi _ _=>ps.length - (wo i).toNat);case atStart=>exact ⟨0,rfl,yb _,rfl,B,H0⟩
 case round=>
  obtain ⟨k,rfl,hk,rfl,m,j⟩:=hrel;by_cases d:k<ps.length;·
   have d1:decide ((k:Int) < (ps.length:Int)):=by simp;omega
   have bt:decide (k<ps.length):=by simp;omega
   have ca:lg.wrap ((k:Int) +1)= ((k+1:Nat):Int):=by rw [rr _ (by omega)];rfl
   obtain ⟨rfl,p0,p1,p2⟩:=bS.out _ _ wr j.out.ez k d;obtain ⟨q2,q3⟩:=HC.out _ _ wr j.out.ez;have ab:=oN d;have hole:=HO.out (k+1) d;have O:=HD.out;have bs:=bP.out;have u:ps.getD k ⟨0,0,0⟩= ps[k]:=by rw [FU,C1 d];rfl
   obtain ⟨R,hR⟩:=eX1 (Om.B (D.drop (64*bW ps k)));have bq:R.size= D.length - 64*bW ps k:=by rw [hR,Om.aG,IV]
   obtain ⟨Q,hQ⟩:=eX1 (64*ps[k].n);have af:(eX ps D k).length= 64*ps[k].n:=by unfold eX;rw [u,E4,IV];omega
   have bx:R.extract 0 Q= Om.B (eX ps D k):=by rw [hR,Og.qN,hQ];unfold eX;rw [u]
   have bf:R.extract Q R.size= Om.B (D.drop (64*bW ps (k+1))):=by rw [hR,Om.j_,Om.fx,List.drop_drop,ab,hQ];congr 2;omega
   have WP:Hid (∀w1,zB wr w1->zF 54 #[zP B.q,zI id, zO (ps[k].c:Int) (ps[k].f:Int) (ps[k].n:Int), .string (Om.B (eX ps D k))] w1 λe w'=>e= aP (aC E st id ps D (k+1)).x/\ (((aC E st id ps D (k+1)).x= 0->∃U,dN B E st id ps D W (k+1) U w')/\((aC E st id ps D (k+1)).x≠0->gI B E (cZ E st id ps D) W (aB (aC E st id ps D (k+1)).x) w'))):=hT λw1 hb=>by
    have bm:=j.out.ek.below hb;have Z:=j.out.ez.trans (br.ax hb:br m (aC E st id ps D k).E m (aC E st id ps D k).E wr w1);have eR:aC E st id ps D (k+1)= cj (aC E st id ps D k).E (aC E st id ps D k).st id ps[k] (eX ps D k):=by show (if (aC E st id ps D k).x≠0 then _ else _)= _;rw [if_neg (by rw [j.out.ok];simp),u]
    have:=M1 bm id ps[k] (eX ps D k) af (HW.out k d j.out.ok);rw [j.out.ez.q,<-eR]at this;refine this.mono ?_;rintro e w' ⟨rfl,E',H,hE⟩;refine ⟨rfl,λh0=>?_,λh0=>?_⟩;· rw [hE (.inl h0)]at H;obtain ⟨U,L,I⟩:=H;exact ⟨U,h0,L,Z.trans I⟩
    ·rw [Nw (by omega) h0];obtain ⟨U,L,I⟩:=H;exact ⟨(aX h0).symm,E',⟨U,L,Z.trans I⟩,hE⟩
   have bl:lg.wrap ((ps[k].n:Int) *64)= (Q:Int):=by rw [hQ,rr _ (by omega)];omega
   have G:Q<=R.size:=by omega
   obtain ⟨S,hS⟩:=eX1 R.size;rw [<-hS]at bf G;have bX:=hS.symm;have l1:(Q:Int)<=(S:Int):=by omega
   have l3:(0:Int)<=(Q:Int):=by omega
   generalize (ps[k].c:Int)= x0 at p0 WP;generalize (ps[k].f:Int)= x1 at p1 WP;generalize (ps[k].n:Int)= x2 at p2 WP bl;obtain ⟨V,bo⟩:=eX2 (wr.alloc (zK x0 x1 x2 107));obtain ⟨y,aw⟩:=jO wr _ _ _ V bo;obtain ⟨y0,y1,y2⟩:=aw V zR;obtain ⟨z2,z3⟩:=HC.out _ _ V (j.out.ez.trans (br.ax y:br m (aC E st id ps D k).E m (aC E st id ps D k).E wr V));have z:=hT (WP.out V.drew (y.trans (zR.drew.mono y.size)));generalize (aC E st id ps D (k+1)).x= X at z;obtain ⟨R2,N⟩:=eX1 (Om.B (D.drop (64*bW ps (k+1))));have bG:=hT N;rw [<-N]at bf;clear N;generalize Om.B (eX ps D k)= D1 at bx z;clear y aw ab hole O bs u af hQ WP bq hS G;rw [<-hR];clear hR;go_wp2_with fail;refine jE 6 (by kernel_rfl) (by kernel_rfl) ?_;intro w3 Y;have l:∀p,w3.cell? p= V.cell? p:=λp=>by rw [Y.out];rfl
   have v0:=(l _).trans y0;have v1:=(l _).trans y1;have v2:=(l _).trans y2;have s2:=(l _).trans z2;have s3:=(l _).trans z3;rw [<-Y.out]at z;clear l y0 y1 y2 z2 z3 p0 p1 p2 q2 q3;simp only [UZ,Tj,U0,TA];repeat still_step
   refine wpStill_nil ?_;go_wp2_with fail;refine z.out.mono ?_;rintro e w4 ⟨rfl,o,J⟩;by_cases w:X= 0;·
    obtain ⟨U,bb⟩:=o w;have NX:=hT bb;rw [w,cF];clear o J bb w;go_wp2_with fail;go_roundw;case rel=>exact ⟨k+1,by go_num,by omega,by rw [bG.out],U,NX⟩
    case measure=>simp [wo];omega
   ·have bg:=hT (J w);rw [aX w];clear o J w;unfold aB at bg⊢;go_wp2;exact ⟨rfl,bg.out⟩
  ·have d1:decide ((k:Int) < (ps.length:Int))= false:=by simp;omega
   have bt:decide (k<ps.length)= false:=by simp;omega
   have e:k= ps.length:=by omega
   subst e;have hq:=j.out.ez.q;have s:=AH j.out.ek (HE.out j.out.ok);rw [hq]at s;have s:=hT s;have EQ:Hid (cZ E st id ps D= ⟨(aC E st id ps D ps.length).E,(So.step (aC E st id ps D ps.length).st .fl).1,(So.step (aC E st id ps D ps.length).st .fl).2⟩):=hT (by unfold cZ;rw [if_neg (by rw [j.out.ok];simp)]);obtain ⟨q2,q3⟩:=HC.out _ _ wr j.out.ez;obtain ⟨X,w⟩:=eX1 ((So.step (aC E st id ps D ps.length).st .fl).2);obtain ⟨st',A⟩:=eX1 ((So.step (aC E st id ps D ps.length).st .fl).1);rw [<-w,<-A]at s EQ;have M:=hT j.out.ez;generalize (aC E st id ps D ps.length).E= E1 at s M EQ;clear w A hq j;by_cases t:X= 0;· subst t;rw [cF]at s;go_wp2_with fail;refine zg s.out λw2 hw=>?_;have T:=hT (ai.next M.out hw);clear hw;go_wp2_with fail;go_end0;have F:gI B E ⟨E1,st',0⟩ W (nf (CE #[])) w2:=⟨rfl,E1,T.out,λ_=>rfl⟩;rw [<-EQ.out]at F;exact F
   ·have EE:=hT (aX t);rw [aX t]at s;unfold aB at s EE;clear t;go_wp2_with fail;refine zg s.out λw2 hw=>?_;have T:=hT (ai.next M.out hw);clear hw;go_wp2;have F:gI B E ⟨E1,st',X⟩ W (.panicked [{v:= .iface 142 (.agg #[zI X]),recovered:=false}]) w2:=⟨EE.out.symm,E1,T.out,λ_=>rfl⟩;rw [<-EQ.out]at F;exact ⟨rfl,F⟩
theorem cB {q:Nat} (h:q<g) (x:Value) (j:Nat):(w.setCell ⟨g,0,none⟩ x).cell? (zD q j)= w.cell? (zD q j):=So.gV (p:=(zD q j)) (heap_setCell_other w ⟨g,0,none⟩ q x (by show q≠g;omega))
structure rm (W0 wx:World) (g:Nat) (ps:List Em.Pc) (v:Value):Prop where
 aL:zB W0 wx
 new:W0.heap.size<=g
 lt:g<wx.heap.size
 cell:wx.cell? (zD g 0)= some v
 row:∃p gp c,v= .slice p ps.length c/\(ps≠ []->p= some ⟨gp,0,none⟩/\W0.heap.size<=gp/\gp<wx.heap.size)/\∀i (hi:i<ps.length),wx.cell? ⟨gp,i*3,none⟩= some (zI (ps[i].c:Int))/\wx.cell? ⟨gp,i*3+1,none⟩= some (zI (ps[i].f:Int))/\wx.cell? ⟨gp,i*3+2,none⟩= some (zI (ps[i].n:Int))
structure oO (W0 wa w4:World) (ps:List Em.Pc) (v:Value):Prop where
 base:zB W0 wa
 aL:zB wa w4
 row:∃p gp c,v= .slice p ps.length c/\(ps≠ []->p= some ⟨gp,0,none⟩/\wa.heap.size<=gp/\gp<w4.heap.size)/\∀i (hi:i<ps.length),w4.cell? ⟨gp,i*3,none⟩= some (zI (ps[i].c:Int))/\w4.cell? ⟨gp,i*3+1,none⟩= some (zI (ps[i].f:Int))/\w4.cell? ⟨gp,i*3+2,none⟩= some (zI (ps[i].n:Int))
variable{v:Value}
theorem oO.all {W0 wa w4:World} (h:oO W0 wa w4 ps v):zB W0 w4:=h.base.trans (h.aL.mono h.base.size)
theorem Ny {W0 wa w4:World} (h:oO W0 wa w4 ps v) (T:TypeId):rm W0 (w4.alloc (hV #[v] T)) w4.heap.size ps v:=by have f:=h.all;obtain ⟨p,j,c,e,h1,g⟩:=h.row;refine ⟨f.alloc f.size _,f.size,by simp,by rw [cell_of_row _ _ _ _ _ _ (heap_alloc_new w4 _)];rfl,p,j,c,e,λhne=>⟨(h1 hne).1,A6 h.base.size (h1 hne).2.1,by simp;have:=(h1 hne).2.2;omega⟩,λi hi=>?_⟩;have d:=(h1 (λc=>by rw [c]at hi;simp at hi)).2.2;obtain ⟨a,b,c⟩:=g i hi;exact ⟨(So.aO d _ _).trans a,(So.aO d _ _).trans b,(So.aO d _ _).trans c⟩
variable{T:TypeId}
theorem Nz {W0 wa w4:World} {z:Value} (h:oO W0 wa w4 ps v) (l:w4.heap[g]?= some (hV #[z] T (0,0))) (m:W0.heap.size<=g) (o:g<wa.heap.size):rm W0 (w4.setCell ⟨g,0,none⟩ v) g ps v:=by have r:=h.all;have f:=(DN.1 l).1;obtain ⟨p,d,c,e,h1,s⟩:=h.row;have q:w4.cell? (zD g 0)= some z:=zW l;refine ⟨r.setCell (p:=(zD g 0)) m _,m,by simp [Vk];exact f,UY _ _ _ q,p,d,c,e,λhne=>⟨(h1 hne).1,A6 h.base.size (h1 hne).2.1,by simp [Vk];exact (h1 hne).2.2⟩,λi hi=>?_⟩;have n:=(h1 (λc=>by rw [c]at hi;simp at hi)).2.1;have k:∀j,(w4.setCell ⟨g,0,none⟩ v).cell? (zD d j)= w4.cell? (zD d j):=λj=>So.gV (p:=(zD d j)) (heap_setCell_other w4 ⟨g,0,none⟩ d v (by show d≠g;omega));obtain ⟨a,b,c⟩:=s i hi;exact ⟨(k _).trans a,(k _).trans b,(k _).trans c⟩
theorem NA (h:Ek w B E st) (id a:Int) (D:ByteArray) (f:E.refuse id≠0): zF 17 #[zP B.q,zI id,zI a, .string D] w (zJ (zI (E.refuse id)) w):=by
 obtain ⟨g,b⟩:=eX2 (((w.alloc (hV #[zP B.q] 40)).alloc (hV #[zI id] 3)).alloc (hV #[.string D] 9));obtain ⟨c,e⟩:=oH w _ _ _ _ _ _ g b;have j:=hT c;have i:=hT (lB (h.below c) id);obtain ⟨k,b1,b2⟩:=e g zR;have d1:(E.refuse id != 0):=by simpa using f
 generalize E.refuse id= x at i d1⊢;clear h c e f;go_enter func17,ntmps17;go_wp2_with fail;clear b;refine zg i.out λw1 hb=>?_;have d:=hT hb;clear hb;go_wp2_with fail;go_ret;exact ⟨rfl,j.out.trans (d.out.mono j.out.size)⟩
theorem NB (h:Ek w B E st) (id a:Int) (D:zL) (l:E.refuse id= 0) (p:D.length<=1073741824) (j:D.length % 64≠0): zF 17 #[zP B.q,zI id,zI a, .string (Om.B D)] w (zJ (zI 1) w):=by
 obtain ⟨m,b⟩:=eX2 (((w.alloc (hV #[zP B.q] 40)).alloc (hV #[zI id] 3)).alloc (hV #[.string (Om.B D)] 9));obtain ⟨d,c⟩:=oH w _ _ _ _ _ _ m b;have o:=hT d;have f:=lB (h.below d) id;rw [l]at f;have e:=hT f;have i:=Om.aG D;obtain ⟨L,k⟩:=eX1 D.length;rw [<-k]at i p j;have n:=hT c;have d1:((L:Int) % 64 != 0):=by simp;omega
 generalize Om.B D= DD at i b n c⊢;obtain ⟨r,b1,b2⟩:=c m zR;clear h d c l f k j;go_enter func17,ntmps17;go_wp2_with fail;clear b;refine zg e.out λw1 hb=>?_;have g:=hT hb;obtain ⟨c0,c1,c2⟩:=n.out w1 hb;clear hb r b1 b2;go_wp2_with fail;go_ret;exact ⟨rfl,o.out.trans (g.out.mono o.out.size)⟩
theorem one_cell {z:Value} (h:w.heap[g]?= some (hV #[z] T (0,0))):w.cell? (zD g 0)= some z/\w.frozen? (zD g 0)= false:=⟨zW h,frozen_of_row (j:=0) _ _ _ _ h⟩
theorem NC (h:Ek w B E st) (hu:Um.aj (E.a:Int) (E.n:Int) (E.g:Int)) (id:Int) (a:Int) (D:zL) (P:E.refuse id= 0) (W:D.length≤1073741824) (hd:D.length % 64= 0) (F:¬(0≤a∧a+ (D.length / 64:Nat)≤(E.n:Int))):
    zF 17 #[zP B.q,zI id,zI a, .string (Om.B D)] w (zJ (zI 2) w):=by
  obtain ⟨n1,V,g1,g2⟩:=h.aF.small
  have o:(E.n:Int)≤9223372036854775807:=by omega
  obtain ⟨r,l⟩:=eX2 (((w.alloc (hV #[zP B.q] 40)).alloc (hV #[zI id] 3)).alloc (hV #[.string (Om.B D)] 9))
  obtain ⟨v,y⟩:=oH w _ _ _ _ _ _ r l
  have C:r.heap.size= w.heap.size+3:=by rw [←l];simp
  have N:=hT v
  have J:=lB (h.below v) id
  rw [P]at J
  have I:=hT J
  have O:=Om.aG D
  obtain ⟨L,G⟩:=eX1 D.length
  rw [←G]at O W hd
  obtain ⟨m,hm⟩:=eX1 (L / 64)
  have R:=hT y
  have d1:((L:Int) % 64 != 0)= false:=by simp;omega
  have e2:(L:Int) / 64= (m:Int):=by omega
  have e3:lg.wrap (m:Int)= (m:Int):=rr _ (by omega)
  have HH:=hT (fun w1 (f:zB r w1)=>mT h.head (v.trans (f.mono v.size)))
  have e:Hid (w.heap.size<r.heap.size):=hT (by omega)
  have d:Hid (w.heap.size+2<r.heap.size):=hT (by omega)
  have b:Hid (B.q<r.heap.size):=hT (by have:=ae.lt_of_heap h.head;omega)
  have GE:=hT (fun w1=>gC (E.a:Int) (E.n:Int) (E.g:Int) w1 hu)
  have H:Geo.fK (E.n:Int) (E.g:Int) a (m:Int)= 2:=by
    rcases Geo.qW (c:=(E.g:Int)) (a:=a) (m:=(m:Int)) h.aF.right with ⟨_,c⟩|⟨c,_⟩
    · rw [←G,←hm]at F
      have X:=c.2.2.2
      have Y:=Int.add_le_of_le_sub_right X
      exact absurd ⟨c.2.2.1,Y⟩ F
    · exact c
  have SP:=hT fun w1=>by
    have:=Geo.AM (E.n:Int) (E.g:Int) a (m:Int) w1 o (Int.le_trans (by decide) (WV m)) (by rw [H];decide)
    rw [H]at this
    exact this
  obtain ⟨S,u⟩:=eX1 (Om.B D)
  rw [←u]at O l R y⊢
  obtain ⟨Z,b1,b2⟩:=y r zR
  clear h v y P J G hd C hm n1 V g1 g2 u o hu F H
  go_enter func17,ntmps17
  go_wp2_with fail
  clear l
  refine zg I.out fun wz f=>?_
  have x:=hT f
  have t:Hid (∀w1,zB wz w1→w1.cell? (zz w 0)= some (zP B.q)∧w1.cell? (zD (w.heap.size+1) 0)= some (zI id)∧w1.cell? (zD (w.heap.size+2) 0)= some (.string S)):=hT fun w1 h1=>R.out w1 (f.trans (h1.mono f.size))
  have s:Hid (∀w1,zB wz w1→_):=hT fun w1 (h1:zB wz w1)=>HH.out w1 (f.trans (h1.mono f.size))
  have e:=hT (ti e.out f.size)
  have d:=hT (ti d.out f.size)
  have b:=hT (ti b.out f.size)
  obtain ⟨c0,c1,c2⟩:=t.out wz zR
  obtain ⟨a0,a1,a2⟩:=s.out wz zR
  clear f Z b1 b2
  go_upto_region 6 with fail
  go_cut [10,11]from 22 to 34 (fun s10 s11 wx=>(∃g,s10= zP g)∧s11= zI 2∧Hid (zB wz wx))
  case first=>
    go_region_held3 (fun w'=>w'.cell? (zz w 0)= some (zP B.q)∧w'.cell? (zD (w.heap.size+2) 0)= some (.string S)∧w'.cell? (zD B.q 0)= some (zI E.a)∧w'.cell? (zD B.q 1)= some (zI E.n)∧w'.cell? (zD B.q 2)= some (zI E.g))
      (first
      | (refine ⟨?_,?_,?_,?_,?_⟩<;>with_reducible assumption)
      | (refine ⟨?_,?_,?_,?_,?_⟩<;>(first|with_reducible assumption|(rw [So.aO (w:=k) (ti e.out i.out.size)];with_reducible assumption)|(rw [So.aO (w:=k) (ti d.out i.out.size)];with_reducible assumption)|(rw [So.aO (w:=k) (ti b.out i.out.size)];with_reducible assumption)))
      | (refine ⟨?_,?_,?_,?_,?_⟩<;>(first|with_reducible assumption|(rw [So.aO (w:=w3) (ti e.out j.out.size)];with_reducible assumption)|(rw [So.aO (w:=w3) (ti d.out j.out.size)];with_reducible assumption)|(rw [So.aO (w:=w3) (ti b.out j.out.size)];with_reducible assumption)))
      | (refine ⟨?_,?_,?_,?_,?_⟩<;>(first|with_reducible assumption|(rw [So.cw,So.aO (w:=wz) e.out];with_reducible assumption)|(rw [So.cw,So.aO (w:=wz) d.out];with_reducible assumption)|(rw [So.cw,So.aO (w:=wz) b.out];with_reducible assumption)))
      | (refine ⟨?_,?_,?_,?_,?_⟩<;>(first|with_reducible assumption|(rw [cB (g:=k.heap.size) (ti e.out i.out.size),So.aO (w:=k) (ti e.out i.out.size)];with_reducible assumption)|(rw [cB (g:=k.heap.size) (ti d.out i.out.size),So.aO (w:=k) (ti d.out i.out.size)];with_reducible assumption)|(rw [cB (g:=k.heap.size) (ti b.out i.out.size),So.aO (w:=k) (ti b.out i.out.size)];with_reducible assumption)))
      | (refine ⟨?_,?_,?_,?_,?_⟩<;>(first|with_reducible assumption|(rw [cB (g:=w3.heap.size) (ti e.out j.out.size),So.aO (w:=w3) (ti e.out j.out.size)];with_reducible assumption)|(rw [cB (g:=w3.heap.size) (ti d.out j.out.size),So.aO (w:=w3) (ti d.out j.out.size)];with_reducible assumption)|(rw [cB (g:=w3.heap.size) (ti b.out j.out.size),So.aO (w:=w3) (ti b.out j.out.size)];with_reducible assumption)))
      | (refine ⟨?_,?_,?_,?_,?_⟩<;>(first|with_reducible assumption|(rw [cB (g:=w3.heap.size) (ti e.out j.out.size)];with_reducible assumption)|(rw [cB (g:=w3.heap.size) (ti d.out j.out.size)];with_reducible assumption)|(rw [cB (g:=w3.heap.size) (ti b.out j.out.size)];with_reducible assumption)))
      | (refine ⟨?_,?_,?_,?_,?_⟩<;>(first|with_reducible assumption|(rw [cB (g:=wz.heap.size) e.out];with_reducible assumption)|(rw [cB (g:=wz.heap.size) d.out];with_reducible assumption)|(rw [cB (g:=wz.heap.size) b.out];with_reducible assumption)))
      | (refine ⟨?_,?_,?_,?_,?_⟩<;>(rw [So.cw];with_reducible assumption)))
      (first
        | (go_at_call 51;refine zg (GE.out _) fun w3 f=>?_;have j:Hid (zB wz w3):=hT (So.bT f (by first|with_reducible exact zR.drew|exact zA.drew));obtain ⟨t0,t1,t2⟩:=t.out w3 j.out;obtain ⟨u0,u1,u2⟩:=s.out w3 j.out;first|(have Q:=hT (So.mO f);obtain ⟨U,T⟩:=one_cell Q.out)|skip)
        | (go_at_call 52;refine zg (SP.out _) fun k f=>?_;have i:Hid (zB wz k):=hT (So.bT f (by first|with_reducible exact j.out|exact j.out.alloc j.out.size _));obtain ⟨p0,p1,p2⟩:=t.out k i.out;obtain ⟨v0,v1,v2⟩:=s.out k i.out;first|(have K:=hT (So.mP f);obtain ⟨A,z⟩:=one_cell K.out)|(have K:=hT (So.mQ f Q.out);obtain ⟨A,z⟩:=one_cell K.out)|skip))
    all_goals
      go_wp2_with fail
      go_meet
      first
      | exact ⟨⟨_,rfl⟩,rfl,hT (i.out.alloc i.out.size _)⟩
      | exact ⟨⟨_,rfl⟩,rfl,hT ((i.out.alloc i.out.size _).setCell (p:=(zz k 0)) i.out.size _)⟩
      | exact ⟨⟨_,rfl⟩,rfl,hT (i.out.setCell (p:=(zz w3 0)) j.out.size _)⟩
      | exact ⟨⟨_,rfl⟩,rfl,hT (i.out.setCell (p:=(zz wz 0)) (nm _) _)⟩
  case rest=>
  obtain ⟨⟨g10,rfl⟩,rfl,M⟩:=hcut
  go_wp2_with fail
  go_ret
  exact ⟨rfl,(N.out.trans (x.out.mono N.out.size)).trans (M.out.mono (A6 N.out.size x.out.size))⟩
theorem A_ {a m:Nat} (b:1<=E.g):bW (Em.split E.g a m) (Em.split E.g a m).length= m:=by have:=Em.rX (c:=E.g) (by omega) m a (a+m) (by omega) (by omega);unfold bW;rw [List.take_length];have e:Em.split E.g a m= Em.cut E.g m a (a+m):=rfl;rw [e];omega
def Ba (B:Eb) (E:En) (R:Wr) (w:World) (e:Ending) (w':World):Prop:=e= nf (zI R.x)/\∃E',ai B E E' R.st w w'/\(R.x= 0\/R.x= 162->E'= R.E)
theorem ND {W0 wz wx:World} (h:Ek w B E st) (id:Int) {ps:List Em.Pc} (D:zL) (K:D.length= 64*bW ps ps.length) (t:D.length<=1073741824) (I:ps.length<=1048576) {v:Value} {g:Nat} (n:zB w W0) (C:W0.heap.size= w.heap.size+3) (J:∀w',zB W0 w'->w'.cell? (zz w 0)= some (zP B.q)/\w'.cell? (zD (w.heap.size+1) 0)= some (zI id)/\w'.cell? (zD (w.heap.size+2) 0)= some (.string (Om.B D))) (b:zB W0 wz) (hp:rm wz wx g ps v) (hw:∀k (hk:k<ps.length),(aC E st id ps D k).x= 0->lH (aC E st id ps D k).E (aC E st id ps D k).st id ps[k]) (j:(aC E st id ps D ps.length).x= 0->(aC E st id ps D ps.length).st.P.length<=1099511627776): zF 42 #[.func (.func 53) #[] #[zP (w.heap.size+2),zP g,zP w.heap.size,zP (w.heap.size+1)]] wx (Ba B E (cZ E st id ps D) w):=by
 have d:=b.trans (hp.aL.mono b.size);have l:=n.trans (d.mono n.size);refine (qV (h.below l) (enters_of func53 (by kernel_rfl) rfl) (first:=#[]) (cap:=#[zP (w.heap.size+2),zP g,zP w.heap.size,zP (w.heap.size+1)]) (λx E' st'=>x= (cZ E st id ps D).x/\st'= (cZ E st id ps D).st/\((cZ E st id ps D).x= 0\/(cZ E st id ps D).x= 162->E'= (cZ E st id ps D).E)) λW hW hb=>?_).mono ?_;·
  have f:=d.trans (hb.mono d.size);have s:=n.trans (f.mono n.size);obtain ⟨c0,c1,c2⟩:=J W f;have H:=f.size;have G:=b.size;have F:=hb.size;have r:∀k,w.heap.size<=k->¬B.fp E k:=λk hk hf=>by have:=h.lt k hf;omega
  refine (Nx (h.below s) id D K t I (v:=v) (g0:=w.heap.size+2) (g1:=g) (g2:=w.heap.size) (g3:=w.heap.size+1) ?_ ⟨by omega,r _ (nm _)⟩ ⟨by omega,r _ (by omega)⟩ c2 ((hb.cell (p:=(zD g 0)) hp.lt).trans hp.cell) c0 c1 hw j).mono ?_;· obtain ⟨p,o,c,L,h1,m⟩:=hp.row;refine ⟨p,o,c,L,λhne=>⟨(h1 hne).1,by have:=(h1 hne).2.2;omega,r _ (by have:=(h1 hne).2.1;omega)⟩,λi hi=>?_⟩;have a:=(h1 (λc=>by rw [c]at hi;simp at hi)).2.2;obtain ⟨A,z,y⟩:=m i hi;exact ⟨(hb.cell (p:=⟨o,i*3,none⟩) a).trans A,(hb.cell (p:=⟨o,i*3+1,none⟩) a).trans z,(hb.cell (p:=⟨o,i*3+2,none⟩) a).trans y⟩
  ·rintro e w1 ⟨h1,E',m,u⟩;exact ⟨_,E',_,h1,⟨rfl,rfl,u⟩,m⟩
 ·rintro e w' ⟨x,E',st',rfl,⟨rfl,rfl,u⟩,m⟩;exact ⟨rfl,E',m.below l,u⟩
theorem NF (h:Ek w B E st) (hu:Um.aj (E.a:Int) (E.n:Int) (E.g:Int)) (id:Int) (a m:Nat) (D:zL) (h0:E.refuse id= 0) (Q:D.length= 64*m) (Z:D.length≤1073741824) (Y:a+m≤E.n) {ps:List Em.Pc} (o:ps= Em.split E.g a m)
    (hw:∀k (hk:k<ps.length),(aC E st id ps D k).x= 0→lH (aC E st id ps D k).E (aC E st id ps D k).st id ps[k])
    (t:(aC E st id ps D ps.length).x= 0→(aC E st id ps D ps.length).st.P.length≤1099511627776):
    zF 17 #[zP B.q,zI id,zI a, .string (Om.B D)] w (Ba B E (cZ E st id ps D) w):=by
  obtain ⟨n1,n2,g1,g2⟩:=h.aF.small
  have GE:=hT (fun w1=>gC (E.a:Int) (E.n:Int) (E.g:Int) w1 hu)
  have SP:=hT (fun w1=>Geo.AO E.n E.g a m w1 h.aF.right Y)
  have C:ps.length≤1048576:=by rw [o];exact A6 (Em.kM E.g a m) (show m≤1048576 by omega)
  have F:D.length= 64*bW ps ps.length:=by rw [o,A_ g1,Q]
  rw [←o]at SP
  obtain ⟨u,r⟩:=eX2 (((w.alloc (hV #[zP B.q] 40)).alloc (hV #[zI id] 3)).alloc (hV #[.string (Om.B D)] 9))
  obtain ⟨K,I⟩:=oH w _ _ _ _ _ _ u r
  have A:u.heap.size= w.heap.size+3:=by rw [←r];simp
  have U:=lB (h.below K) id
  rw [h0]at U
  have T:=hT U
  have AT:=hT (fun wz wx v g hbz hp=>ND (wz:=wz) (wx:=wx) (v:=v) (g:=g) h id D F Z C K A I hbz hp hw t)
  obtain ⟨R,hR⟩:=eX1 (cZ E st id ps D)
  rw [←hR]at AT⊢
  have X:(Om.B D).size= 64*m:=by rw [Om.aG,Q]
  have HC:=hT I
  have d1:(((64*m:Nat):Int) % 64 != 0)= false:=by simp
  have e2:((64*m:Nat):Int) / 64= (m:Int):=by omega
  have e3:lg.wrap (m:Int)= (m:Int):=rr _ (by omega)
  have HH:=hT (fun w1 (i:zB u w1)=>mT h.head (K.trans (i.mono K.size)))
  have d:Hid (w.heap.size<u.heap.size):=hT (by omega)
  have c:Hid (w.heap.size+2<u.heap.size):=hT (by omega)
  have b:Hid (B.q<u.heap.size):=hT (by have:=ae.lt_of_heap h.head;omega)
  obtain ⟨L,hL⟩:=eX1 (64*m)
  rw [←hL]at X d1 e2
  obtain ⟨DD,J⟩:=eX1 (Om.B D)
  rw [←J]at X r HC I⊢
  obtain ⟨b0,b1,b2⟩:=I u zR
  clear h K I h0 U hL Q Z A n1 n2 g1 g2 J hu Y hw t hR o C F
  go_enter func17,ntmps17
  go_wp2_with fail
  clear r
  refine zg T.out fun wz i=>?_
  have W:=hT i
  have z:Hid (∀w1,zB wz w1→w1.cell? (zz w 0)= some (zP B.q)∧w1.cell? (zD (w.heap.size+1) 0)= some (zI id)∧w1.cell? (zD (w.heap.size+2) 0)= some (.string DD)):=hT fun w1 h1=>HC.out w1 (i.trans (h1.mono i.size))
  have y:Hid (∀w1,zB wz w1→_):=hT fun w1 (h1:zB wz w1)=>HH.out w1 (i.trans (h1.mono i.size))
  have d:=hT (ti d.out i.size)
  have c:=hT (ti c.out i.size)
  have b:=hT (ti b.out i.size)
  obtain ⟨c0,c1,c2⟩:=z.out wz zR
  obtain ⟨a0,a1,a2⟩:=y.out wz zR
  clear i b0 b1 b2
  go_upto_region 6 with fail
  go_cut [10,11]from 22 to 34 (fun s10 s11 wx=>(∃g v,s10= zP g∧Hid (rm wz wx g ps v))∧s11= zI 0)
  case first=>
    go_region_held3 (fun w'=>w'.cell? (zz w 0)= some (zP B.q)∧w'.cell? (zD (w.heap.size+2) 0)= some (.string DD)∧w'.cell? (zD B.q 0)= some (zI E.a)∧w'.cell? (zD B.q 1)= some (zI E.n)∧w'.cell? (zD B.q 2)= some (zI E.g))
      (first
      | (refine ⟨?_,?_,?_,?_,?_⟩<;>with_reducible assumption)
      | (refine ⟨?_,?_,?_,?_,?_⟩<;>(first|with_reducible assumption|(rw [So.aO (w:=j) (ti d.out l.out.size)];with_reducible assumption)|(rw [So.aO (w:=j) (ti c.out l.out.size)];with_reducible assumption)|(rw [So.aO (w:=j) (ti b.out l.out.size)];with_reducible assumption)))
      | (refine ⟨?_,?_,?_,?_,?_⟩<;>(first|with_reducible assumption|(rw [So.aO (w:=w3) (ti d.out f.out.size)];with_reducible assumption)|(rw [So.aO (w:=w3) (ti c.out f.out.size)];with_reducible assumption)|(rw [So.aO (w:=w3) (ti b.out f.out.size)];with_reducible assumption)))
      | (refine ⟨?_,?_,?_,?_,?_⟩<;>(first|with_reducible assumption|(rw [So.cw,So.aO (w:=wz) d.out];with_reducible assumption)|(rw [So.cw,So.aO (w:=wz) c.out];with_reducible assumption)|(rw [So.cw,So.aO (w:=wz) b.out];with_reducible assumption)))
      | (refine ⟨?_,?_,?_,?_,?_⟩<;>(first|with_reducible assumption|(rw [cB (g:=j.heap.size) (ti d.out l.out.size),So.aO (w:=j) (ti d.out l.out.size)];with_reducible assumption)|(rw [cB (g:=j.heap.size) (ti c.out l.out.size),So.aO (w:=j) (ti c.out l.out.size)];with_reducible assumption)|(rw [cB (g:=j.heap.size) (ti b.out l.out.size),So.aO (w:=j) (ti b.out l.out.size)];with_reducible assumption)))
      | (refine ⟨?_,?_,?_,?_,?_⟩<;>(first|with_reducible assumption|(rw [cB (g:=w3.heap.size) (ti d.out f.out.size),So.aO (w:=w3) (ti d.out f.out.size)];with_reducible assumption)|(rw [cB (g:=w3.heap.size) (ti c.out f.out.size),So.aO (w:=w3) (ti c.out f.out.size)];with_reducible assumption)|(rw [cB (g:=w3.heap.size) (ti b.out f.out.size),So.aO (w:=w3) (ti b.out f.out.size)];with_reducible assumption)))
      | (refine ⟨?_,?_,?_,?_,?_⟩<;>(first|with_reducible assumption|(rw [cB (g:=w3.heap.size) (ti d.out f.out.size)];with_reducible assumption)|(rw [cB (g:=w3.heap.size) (ti c.out f.out.size)];with_reducible assumption)|(rw [cB (g:=w3.heap.size) (ti b.out f.out.size)];with_reducible assumption)))
      | (refine ⟨?_,?_,?_,?_,?_⟩<;>(first|with_reducible assumption|(rw [cB (g:=wz.heap.size) d.out];with_reducible assumption)|(rw [cB (g:=wz.heap.size) c.out];with_reducible assumption)|(rw [cB (g:=wz.heap.size) b.out];with_reducible assumption)))
      | (refine ⟨?_,?_,?_,?_,?_⟩<;>(rw [So.cw];with_reducible assumption)))
      (first
        | (go_at_call 51;refine zg (GE.out _) fun w3 i=>?_;have f:Hid (zB wz w3):=hT (So.bT i (by first|with_reducible exact zR.drew|exact zA.drew));obtain ⟨t0,t1,t2⟩:=z.out w3 f.out;obtain ⟨u0,u1,u2⟩:=y.out w3 f.out;first|(have V:=hT (So.mO i);obtain ⟨ad,ab⟩:=one_cell V.out)|skip)
        | (go_at_call 52;refine (SP.out _).mono ?_;rintro e j ⟨v,rfl,s,i⟩;obtain ⟨p,gp,cp,rfl,G,H⟩:=Geo.AQ s;have S:Hid (oO wz _ j ps (.slice p ps.length cp)):=hT ⟨by first|with_reducible exact f.out|exact f.out.alloc f.out.size _,i,p,gp,cp,rfl,G,H⟩;clear s G H;have l:Hid (zB wz j):=hT (So.bT i (by first|with_reducible exact f.out|exact f.out.alloc f.out.size _));obtain ⟨p0,p1,p2⟩:=z.out j l.out;obtain ⟨v0,v1,v2⟩:=y.out j l.out;first|(have M:=hT (So.mP i);obtain ⟨O,N⟩:=one_cell M.out)|(have M:=hT (So.mQ i V.out);obtain ⟨O,N⟩:=one_cell M.out)|skip))
    all_goals
      go_wp2_with fail
      go_meet
      first
      | exact ⟨⟨_,_,rfl,hT (Ny S.out _)⟩,rfl⟩
      | exact ⟨⟨_,_,rfl,hT (pspot_a S.out _)⟩,rfl⟩
      | exact ⟨⟨_,_,rfl,hT (Nz S.out M.out (by first|exact nm _|exact f.out.size) (by first|exact (DN.1 V.out).1|(simp;done)))⟩,rfl⟩
  case rest=>
  obtain ⟨⟨g10,v,rfl,HP⟩,rfl⟩:=hcut
  have AN:=hT (AT.out wz _ v g10 W.out HP.out)
  go_wp2_with fail
  refine zg AN.out fun w2 hw=>?_
  have HW:=hT hw
  clear hw
  go_wp2_with fail
  go_ret
  exact ⟨rfl,HW.out⟩
def dP (D:Sn.En) (id:Int) (ps:List Em.Pc) (d:zL):Nat->Sn.En×Bool
 | 0=>(D,true)
 | k+1=>if (dP D id ps d k).2= true then (dP D id ps d k).1.piece id (ps.getD k ⟨0,0,0⟩) (eX ps d k) else dP D id ps d k
structure rn (E:En) (ps:List Em.Pc) (a m:Nat):Prop where
 pc:∀k (hk:k<ps.length),fJ E ps[k]/\1<=ps[k].n/\ps[k].c*E.g+ps[k].f= a+bW ps k/\a+bW ps k+ps[k].n<=a+m
 all:bW ps ps.length= m
 aS:ps.length<=m
theorem rq (l:1<=E.g) {a m:Nat} (h:a+m<=E.n):rn E (Em.split E.g a m) a m:=by
 refine ⟨λk hk=>?_,A_ l,Em.kM _ _ _⟩;obtain ⟨at_,e,h1,j,q,i,p⟩:=Em.rW (c:=E.g) (by omega) m a (a+m) (by omega) (by omega) k (Em.split E.g a m)[k] (C1 hk);have e':at_= a+bW (Em.split E.g a m) k:=e;have hm:at_ % E.g<E.g:=Tu _ (by omega);have f:=Uf at_ E.g;rw [SH,<-h1,<-j]at f;have o:(Em.split E.g a m)[k].n<=a+m - at_:=by rw [i];exact Nat.min_le_right _ _
 have d:(Em.split E.g a m)[k].n<=E.g - at_ % E.g:=by rw [i];exact Nat.min_le_left _ _
 have b:1<=(Em.split E.g a m)[k].n:=by rw [i];omega
 rw [<-j]at d;refine ⟨⟨by omega,by omega⟩,b,by omega,by omega⟩
theorem Bb {D:zL} {m:Nat} (c:D.length= 64*m) (a:bW ps ps.length= m) (hk:k<ps.length) (b:bW ps k+ps[k].n<=m):(eX ps D k).length= 64*ps[k].n:=by unfold eX;rw [E4,IV,c,FU,C1 hk];show min (64*ps[k].n) _= _;omega
structure NG (E:En) (st:Dm.St) (D:Sn.En) (id:Int) (ps:List Em.Pc) (d:zL) (k:Nat):Prop where
 bE:aD (aC E st id ps d k).E (aC E st id ps d k).st
 rel:Rel (aC E st id ps d k).E (aC E st id ps d k).st (dP D id ps d k).1
 low:(aC E st id ps d k).E.a= E.a/\(aC E st id ps d k).E.n= E.n/\(aC E st id ps d k).E.g= E.g
 how:((dP D id ps d k).2= true/\(aC E st id ps d k).x= 0/\Us (aC E st id ps d k).E id/\(aC E st id ps d k).st.P.length<=st.P.length+bW ps k)\/((dP D id ps d k).2= false/\(aC E st id ps d k).x= 162/\(aC E st id ps d k).st.P= [])
theorem aD.uX (h:aD E st) {D:Sn.En} (l:Rel E st D) {id:Int} (hu:Us E id) {ps:List Em.Pc} {a m:Nat} (hp:rn E ps a m) {d:zL} (hd:d.length= 64*m):∀k,k≤ps.length→NG E st D id ps d k
  | 0,_=>⟨h,l,⟨rfl,rfl,rfl⟩, .inl ⟨rfl,rfl,hu,Nat.le_add_right _ _⟩⟩
  | k + 1, hk => by
    have c:=h.uX l hu hp hd k (by omega)
    obtain ⟨la,ln,g⟩:=c.low
    have b:aC E st id ps d (k+1)= if (aC E st id ps d k).x≠0 then aC E st id ps d k else cj (aC E st id ps d k).E (aC E st id ps d k).st id (ps.getD k ⟨0,0,0⟩) (eX ps d k):=rfl
    have e:dP D id ps d (k+1)= if (dP D id ps d k).2= true then (dP D id ps d k).1.piece id (ps.getD k ⟨0,0,0⟩) (eX ps d k) else dP D id ps d k:=rfl
    have n:ps.getD k ⟨0,0,0⟩= ps[k]:=by rw [FU,C1 (by omega)];rfl
    obtain ⟨j,s,z,y⟩:=hp.pc k (by omega)
    rcases c.how with ⟨h1,f,i,B⟩|⟨h1,f,i⟩
    · rw [f,if_neg (by decide)]at b
      rw [h1,if_pos rfl]at e
      have w:fJ (aC E st id ps d k).E ps[k]:=⟨by rw [ln,g];exact j.low,by rw [g];exact j.chunk⟩
      have W:=c.bE.Nu c.rel i w s (Bb hd hp.all (by omega) (by omega))
      rw [←n]at W
      obtain ⟨v,u,t⟩:=W.low
      have A:=oN (ps:=ps) (k:=k) (by omega)
      refine ⟨by rw [b];exact W.bE,by rw [b,e];exact W.rel,by rw [b];exact ⟨v.trans la,u.trans ln,t.trans g⟩,?_⟩
      rw [b,e]
      rcases W.how with ⟨r,p,o⟩|q
      · refine .inl ⟨r,p,o,?_⟩
        have:=W.aS
        rw [n]at this⊢
        omega
      · exact .inr q
    · rw [f,if_pos (by decide)]at b
      rw [h1,if_neg (by decide)]at e
      refine ⟨by rw [b];exact c.bE,by rw [b,e];exact c.rel,by rw [b];exact c.low, .inr ?_⟩
      rw [b,e]
      exact ⟨h1,f,i⟩
theorem aD.NH (h:aD E st) {id:Int} (hu:Us E id) {x:Em.Pc} (b:fJ E x) (d:1<=x.n) (r:st.P.length<=2097152):lH E st id x:=by
 have q:=h.form.small;have j:=b.low;have o:=b.chunk;have l:x.c<Em.parts E.n E.g:=(Em.kL (by omega)).2 (by omega);have f:x.c<=1048576:=by have:=Em.iw E.n E.g;omega
 obtain ⟨i,a,_⟩:=h.chunk l;refine ⟨h.aN (by omega),b,d,?_,λ_=>⟨h.AX (by omega) l,?_⟩,i,a⟩;·
  rcases hu with e|⟨k,hk,e,p,m⟩;· exact .inl e
  ·exact .inr ⟨k,hk,e,by omega,m⟩
 ·rcases (h.aJ f a 16 (nm _)).aS with e|e;· rw [e];exact yb _
  ·rw [e];omega
structure NI (E:En) (st:Dm.St) (D:Sn.En) (id:Int) (ps:List Em.Pc) (d:zL):Prop where
 bE:aD (cZ E st id ps d).E (cZ E st id ps d).st
 rel:Rel (cZ E st id ps d).E (cZ E st id ps d).st (dP D id ps d ps.length).1
 none:(cZ E st id ps d).st.P= []
 how:((dP D id ps d ps.length).2= true/\(cZ E st id ps d).x= 0)\/((dP D id ps d ps.length).2= false/\(cZ E st id ps d).x= 162)
 can:∀k (hk:k<ps.length),(aC E st id ps d k).x= 0->lH (aC E st id ps d k).E (aC E st id ps d k).st id ps[k]
 aS:(aC E st id ps d ps.length).x= 0->(aC E st id ps d ps.length).st.P.length<=1099511627776
theorem aD.write (h:aD E st) (s:st.P= []) {D:Sn.En} (r:Rel E st D) {id:Int} (hu:Us E id) {a m:Nat} (l:a+m<=E.n) {d:zL} (hd:d.length= 64*m):NI E st D id (Em.split E.g a m) d:=by
 have u:=h.form.small;have hp:=rq (E:=E) u.2.2.1 l;have W:=h.uX r hu hp hd (Em.split E.g a m).length (nm _);have can:∀k (hk:k< (Em.split E.g a m).length),(aC E st id (Em.split E.g a m) d k).x= 0->lH (aC E st id (Em.split E.g a m) d k).E (aC E st id (Em.split E.g a m) d k).st id (Em.split E.g a m)[k]:=λk hk h0=>by
  have o:=h.uX r hu hp hd k (by omega);obtain ⟨la,ln,q⟩:=o.low;obtain ⟨p,t,A,z⟩:=hp.pc k hk;rcases o.how with ⟨h1,b,i,f⟩|⟨h1,b,i⟩;· refine o.bE.NH i ⟨by rw [ln,q];exact p.low,by rw [q];exact p.chunk⟩ t ?_;rw [s]at f;simp at f;omega
  ·rw [h0]at b;cases b
 rcases W.how with ⟨h1,b,i,f⟩|⟨h1,b,i⟩;·
  obtain ⟨f1,y,w,v⟩:=W.bE.fl;have e:cZ E st id (Em.split E.g a m) d= ⟨(aC E st id (Em.split E.g a m) d (Em.split E.g a m).length).E,(So.step (aC E st id (Em.split E.g a m) d (Em.split E.g a m).length).st .fl).1,(So.step (aC E st id (Em.split E.g a m) d (Em.split E.g a m).length).st .fl).2⟩:=by unfold cZ;rw [b,if_neg (by decide)]
  refine ⟨by rw [e];exact y,by rw [e];exact W.rel.raw λj _=>v _,by rw [e];exact w, .inl ⟨h1,by rw [e];exact f1⟩,can,λ_=>?_⟩;rw [s,hp.all]at f;simp at f;omega
 ·have e:cZ E st id (Em.split E.g a m) d= aC E st id (Em.split E.g a m) d (Em.split E.g a m).length:=by unfold cZ;rw [b,if_pos (by decide)]
  refine ⟨by rw [e];exact W.bE,by rw [e];exact W.rel,by rw [e];exact i, .inr ⟨h1,by rw [e];exact b⟩,can,λc=>?_⟩;rw [b]at c;cases c
def En.whole (E:En) (st:Dm.St) (id:Int):Nat->List UInt8:=if id= 0 then E.aF st else E.cI st (id - 1).toNat
theorem aD.ru (h:aD E st) {id:Int} (hu:Us E id) {j:Nat} (a:j<E.n):(E.whole st id j).length= 64:=by
 unfold En.whole;rcases hu with rfl|⟨k,hk,e,b,c⟩;· rw [if_pos rfl];exact h.A8 a
 ·rw [if_neg (by omega),show (id - 1).toNat= k by omega];exact h.rl hk (by omega) a
theorem Rel.whole (h:Rel E st D) {id:Int} (hu:Us E id):D.whole id= So.bI E.n (E.whole st id):=by
 unfold Sn.En.whole En.whole;rcases hu with rfl|⟨k,hk,e,a,b⟩;· rw [if_pos rfl,if_pos rfl];exact h.aF
 ·rw [if_neg (by omega),if_neg (by omega),show (id - 1).toNat= k by omega,h.cI k hk a,b,if_neg (by decide)]
theorem aD.fm (h:aD E st) {id:Int} (hu:Us E id) {x:Em.Pc} (p:fJ E x):Se.fm E st id x= So.bI x.n (fun j=>E.whole st id (x.c*E.g+x.f+j)):=by
  have I:=h.form.small
  have s:=p.low
  have B:=p.chunk
  have hdiv:∀j,j<x.n→(x.c*E.g+x.f+j) / E.g= x.c∧(x.c*E.g+x.f+j) % E.g= x.f+j:=fun j hj=>by
    have e:x.c*E.g+x.f+j= E.g*x.c+ (x.f+j):=by rw [SH];omega
    rw [e,Nat.mul_add_div (by omega),Nat.mul_add_mod,Nat.div_eq_of_lt (by omega),Nat.mod_eq_of_lt (by omega)]
    exact ⟨by omega,rfl⟩
  unfold Se.fm
  cases hex:E.dO id x.c with
  | some i =>
    unfold En.dO at hex
    cases hh:E.has (E.aW id) with
    | false=>rw [hh]at hex;cases hex
    | true =>
      rw [hh,if_pos rfl]at hex
      obtain ⟨k,hk,J,m⟩:=cO.1 hh
      have ek:(E.aW id - 1).toNat= k:=by omega
      rw [ek]at hex
      obtain ⟨q,t⟩:=A9 hex
      obtain ⟨_,r,_⟩:=Tb.iz.1 t
      have hp:=h.form.pa k hk m
      have b:=h.form.fit k hk m
      have C:=b.lt r
      have u:=So.Pa.mo hp C
      have A:(E.pa k).st+ (E.pa k).ln≤E.a:=hp.high
      have l:(E.pa k).g= E.g:=rfl
      have y:Dm.dn st (((E.pa k).data i:Int) + (x.f:Int)) (x.n:Int):=by rw [Dm.fb,h.dK];omega
      show Dm.aA st (((E.pa (E.aW id - 1).toNat).data i:Int) + (x.f:Int)) (x.n:Int)= _
      rw [ek]
      unfold Dm.aA
      rw [h.dE.dead,if_neg (by decide),y,if_pos rfl,show (((E.pa k).data i:Int) + (x.f:Int)).toNat= (E.pa k).data i+x.f by omega,GH]
      show So.bI x.n (fun j=>Dm.one st ((E.pa k).data i+x.f+j))= _
      refine So.eu fun j hj=>?_
      rw [Vv,(h.gW.ed k hk m).data i _ r (by omega) (x.f+j) (by rw [l];omega)]
      obtain ⟨d1,d2⟩:=hdiv j hj
      have key:So.view E.g (E.one k).M (raw st) (x.c*E.g+x.f+j)= So.piece ((E.one k).M.D.getD i []) (x.f+j):=by
        rw [So.jJ (by rw [d1];exact t),d2]
      rw [←key]
      unfold En.whole
      rcases hu with rfl|⟨H,z,d,v,w⟩
      · have o:E.aW 0= (E.al:Int):=by unfold En.aW;rw [if_pos rfl]
        rw [if_pos rfl]
        unfold En.aF
        rw [if_neg (by omega),show E.al - 1= k by omega]
        rfl
      · have o:E.aW id= id:=by unfold En.aW;rw [if_neg (by omega)]
        rw [if_neg (by omega),show (id - 1).toNat= k by omega]
        rfl
  | none =>
    show Og.rS E.n st ((x.c*E.g+x.f:Nat):Int) (x.n:Int)= _
    have F:Og.hasB E.n ((x.c*E.g+x.f:Nat):Int) (x.n:Int):=by
      unfold Og.hasB
      simp
      omega
    obtain ⟨_,d⟩:=h.there (a:=x.c*E.g+x.f) (n:=x.n) (by omega)
    unfold Og.rS
    rw [F,if_pos rfl,d]
    show So.bI x.n (fun j=>Dm.one st (17+ (x.c*E.g+x.f) +j))= _
    refine So.eu fun j hj=>?_
    obtain ⟨d1,d2⟩:=hdiv j hj
    rw [show 17+ (x.c*E.g+x.f) +j= 17+ (x.c*E.g+x.f+j) by omega]
    show raw st (x.c*E.g+x.f+j)= _
    unfold En.whole
    rcases hu with rfl|⟨k,hk,d,v,q⟩
    · rw [if_pos rfl]
      unfold En.aF
      split
      · rfl
      · rename_i e
        obtain ⟨k,hk,ek,t2⟩:=jn e
        rw [ek,show k+1 - 1= k by omega]
        unfold En.cI
        refine (So.gE ?_).symm
        rw [d1]
        have G:E.aW 0= (k:Int) +1:=by unfold En.aW;rw [if_pos rfl,ek];omega
        unfold En.dO at hex
        rw [cO.2 ⟨k,hk,G,by omega⟩,if_pos rfl,show (E.aW 0 - 1).toNat= k by omega]at hex
        unfold So.Ms.aK at hex
        rw [h.form.val k hk t2,if_neg (by decide)]at hex
        exact hex
    · rw [if_neg (by omega),show (id - 1).toNat= k by omega]
      unfold En.cI
      refine (So.gE ?_).symm
      rw [d1]
      have o:E.aW id= id:=by unfold En.aW;rw [if_neg (by omega)]
      unfold En.dO at hex
      rw [o,cO.2 ⟨k,hk,d,by omega⟩,if_pos rfl,show (id - 1).toNat= k by omega]at hex
      unfold So.Ms.aK at hex
      rw [q,if_neg (by decide)]at hex
      exact hex
theorem NJ (m n:Nat) (v:Nat->List UInt8):So.bI (m+n) v= So.bI m v ++ So.bI n (λj=>v (m+j)):=by unfold So.bI;rw [List.range_add,R0,List.flatten_append,List.map_map];rfl
theorem aD.eQ (h:aD E st) {id:Int} (hu:Us E id) {ps:List Em.Pc} {a m:Nat} (hp:rn E ps a m):∀k,k<=ps.length->Se.eQ E st id ps k= So.bI (bW ps k) (λj=>E.whole st id (a+j))
 | 0,_=>rfl
 | k + 1, hk => by obtain ⟨c,e,b,d⟩:=hp.pc k (by omega);rw [AR (by omega),h.eQ hu hp k (by omega),oN (by omega),NJ,h.fm hu c,b];congr 1;exact So.eu λj _=>by rw [Vv]
theorem NK {a m:Nat} {v:Nat->List UInt8} (b:∀j,j<n->(v j).length= 64) (h:a+m<=n):So.bI m (λj=>v (a+j))= ((So.bI n v).drop (64*a)).take (64*m):=by have c:=So.mK b;refine So.tW (by rw [E4,IV,c];omega) λj hj=>?_;rw [So.Jq hj,So.qx b (by omega)]
theorem aD.read (h:aD E st) {D:Sn.En} (c:Rel E st D) {id:Int} (hu:Us E id) {a m:Nat} (b:a+m<=E.n):Se.eQ E st id (Em.split E.g a m) (Em.split E.g a m).length= ((D.whole id).drop (64*a)).take (64*m):=by have hp:=rq (E:=E) h.form.small.2.2.1 b;rw [h.eQ hu hp _ (nm _),hp.all,c.whole hu];exact NK (λj hj=>h.ru hu hj) b
open Go.RowKit Go.Proofs.YtchihokmgmchcaaGreat.Xm
def aR (E:En) (k:Nat):zX:=((List.range k).filter λi=>decide ((E.one i).t≠0)).map λi=>(((E.one i).st:Int),((E.one i).ln:Int))
def En.bB (E:En):zX:=aR E 16
theorem mV (E:En) (k:Nat):aR E (k+1)= if (E.one k).t≠0 then aR E k ++ [(((E.one k).st:Int),((E.one k).ln:Int))]else aR E k:=by
 unfold aR;rw [List.range_succ,List.filter_append,R0];by_cases h:(E.one k).t≠0;· rw [if_pos h];simp [h]
 ·rw [if_neg h];simp [h]
theorem re (E:En) (k:Nat):(aR E k).length<=k:=by unfold aR;rw [PN];exact A6 (Uw _ _) (by rw [Tw];exact nm _)
variable{base size:Nat}{e:TypeId}{xs:List Value}
theorem Bj (h:w.ownsRow base e size v n xs):∃a c,v= .slice a n c:=by
 rcases h.2 with ⟨h,b⟩|⟨g,cap,cur,h,_⟩;· exact ⟨none,0,by rw [h,b]⟩
 ·exact ⟨_,_,h⟩
theorem oR (h:w.ownsRow base e size v n xs) (r:Nat) (a:v.ownBlock= some r):base<=r:=by
 rcases h.2 with ⟨rfl,_⟩|⟨g,cap,cur,rfl,b,c,_⟩;· simp [TS]at a
 ·simp [TS]at a;subst a;exact b
theorem uY (h:Hd w B E): zF 79 #[zP B.q] w λe w'=>∃p c,e= nf (.slice p E.bB.length c)/\bd w' p E.bB/\zB w w':=by
 obtain ⟨Q,hi,C,A,z⟩:=info_parts rb;have S:=hT h.lj;have O:=hT (λk (hk:k<16)=>mx E k hk);clear h;go_enter func79,ntmps79;go_wp2_with (refine wpList_load_mid rfl 89 _ rfl B.q 5 rfl (bh 64 (cG E)) _ S.out underlying89 rfl (my E) ?_);generalize hAV:Value.agg (bh 64 (cG E)).toArray= AV;rw [hAV]at O;clear hAV;go_loopw [10,3] (λi s wr=>∃(k n:Nat) (v:Value),i= zI k/\s= v/\k<=16/\Hid (n= (aR E k).length)/\Hid (wr.ownsRow w.heap.size 65 2 v n (cells (aR E k)))/\Hid (zB w wr)) (λi _ _=>16 - (wo i).toNat);case atStart=>exact ⟨0,0,_,rfl,rfl,yb _,hT rfl,hT (World.ownsRow_nil _ _ _ _),hT zR⟩
 case round=>
  obtain ⟨k,n,v,rfl,rfl,hk,y,a,hw⟩:=hrel;by_cases F:k<16;·
   have d1:decide ((k:Int) <16):=by simp;omega
   have H:decide (k<16):=by simp;omega
   have R:lg.wrap ((k:Int) +1)= ((k+1:Nat):Int):=by rw [rr _ (by omega)];rfl
   have f:=O.out k F;have o:=hT (mV E k);have U:=hT (re E k);generalize (E.one k).t= s at f o;generalize ((E.one k).st:Int)= x1 at f o;generalize ((E.one k).ln:Int)= x2 at f o;generalize ((E.one k).gen:Int)= x3 at f;by_cases G:s= 0;·
    have d2:((s:Int) != 0)= false:=by simp;omega
    have u:Hid (aR E (k+1)= aR E k):=hT (by rw [o.out,if_neg (by omega)]);clear G;go_wp2_with fail;go_roundw;case rel=>exact ⟨k+1,n,_,by go_num,rfl,by omega,by rw [u.out];exact y,by rw [u.out];exact hT (a.out.alloc _),hT (hw.out.alloc hw.out.size _)⟩
    case measure=>simp [wo];omega
   ·have d2:((s:Int) != 0):=by simp;omega
    have u:Hid (aR E (k+1)= aR E k ++ [(x1,x2)]):=hT (by rw [o.out,if_pos G]);obtain ⟨pa,pc,rfl⟩:=Bj a.out;have M:n<=16:=by have:=U.out;have:=y.out;omega
    obtain ⟨w2,b⟩:=eX2 (wr.alloc (hV #[zI s,zI x1,zI x2,zU x3] 68));have I:Hid (w2.ownsRow w.heap.size 65 2 (.slice pa n pc) n (cells (aR E k))):=hT (by rw [<-b];exact a.out.alloc _);have x:Hid (zB w w2):=hT (by rw [<-b];exact hw.out.alloc hw.out.size _);have T:=hT λr hr=>oR a.out r hr;have c0:w2.cell? (zz wr 0)= some (zI s):=by rw [<-b];exact cell_of_row _ _ _ _ _ _ (heap_alloc_new wr _)
    have c1:w2.cell? (zz wr 1)= some (zI x1):=by rw [<-b];exact cell_of_row _ _ _ _ _ _ (heap_alloc_new wr _)
    have c2:w2.cell? (zz wr 2)= some (zI x2):=by rw [<-b];exact cell_of_row _ _ _ _ _ _ (heap_alloc_new wr _)
    clear G;have D:=x.out.size;go_wp2_with (at_builtin;refine wpList_append_own _ rfl _ _ 121 rfl w.heap.size 65 Q _ 2 16 underlying121 hi C A z rfl (by decide) (.slice pa n pc) n (cells (aR E k)) rfl (I.out.alloc _) ⟨w2.heap.size,0,none⟩ 1 1 [zI x1,zI x2] rfl rfl (World.news_of_block (cs:=#[zI x1,zI x2]) (heap_alloc_new w2 _)) (by simp [Value.oneCell']) (by unfold maxLen;omega) (by omega) (by simp;omega) ?_);intro P w3 g d m;have K:Hid (w3.ownsRow w.heap.size 65 2 P (n+1) (cells (aR E (k+1)))):=hT (by rw [u.out,mU,cells_one];exact g);have J:Hid (n+1= (aR E (k+1)).length):=hT (by rw [u.out,DC,List.length_singleton,<-y.out]);have L:=hT ((x.out.alloc D _).grown d (by simp;omega) (λj e=>T.out j e));clear g d m;go_wp2_with fail;go_roundw;case rel=>exact ⟨k+1,n+1,_,by go_num,rfl,by omega,J,K,L⟩
    case measure=>simp [wo];omega
  ·have d1:decide ((k:Int) <16)= false:=by simp;omega
   have H:decide (k<16)= false:=by simp;omega
   have e:k= 16:=by omega
   subst e;obtain ⟨p,c,rfl,N⟩:=bd.own (l:=aR E 16) (by rw [<-y.out];exact a.out);have V:=hT N;clear N;go_wp2_with fail;go_ret;exact ⟨_,_,rfl,V.out,hw.out⟩
open Go.RowKit
def iq (E:En):Nat->Nat
 | 0=>0
 | k+1=>max (iq E k) (E.one k).gen
def En.dG (E:En):Nat:=iq E 16
theorem Oh (h:Hd w B E): zF 112 #[zP B.q] w (zJ (zU E.dG) w):=by
 have o:=hT h.lj;have j:=hT (λk (hk:k<16)=>mx E k hk);clear h;go_enter func112,ntmps112;go_wp2_with (refine wpList_load_mid rfl 89 _ rfl B.q 5 rfl (bh 64 (cG E)) _ o.out underlying89 rfl (my E) ?_);generalize hAV:Value.agg (bh 64 (cG E)).toArray= AV;rw [hAV]at j;clear hAV;go_loopw [10,3] (λi s wr=>∃(k n:Nat),i= zI k/\s= zU n/\k<=16/\Hid (n= iq E k)/\Hid (zB w wr)) (λi _ _=>16 - (wo i).toNat);case atStart=>exact ⟨0,0,rfl,rfl,yb _,hT rfl,hT zR⟩
 case round=>
  obtain ⟨k,n,rfl,rfl,hk,f,hw⟩:=hrel;by_cases b:k<16;·
   have d1:decide ((k:Int) <16):=by simp;omega
   have c:decide (k<16):=by simp;omega
   have m:lg.wrap ((k:Int) +1)= ((k+1:Nat):Int):=by rw [rr _ (by omega)];rfl
   have a:=j.out k b;have l:Hid (iq E (k+1)= max (iq E k) (E.one k).gen):=hT rfl;generalize ((E.one k).t:Int)= x0 at a;generalize ((E.one k).st:Int)= x1 at a;generalize ((E.one k).ln:Int)= x2 at a;generalize (E.one k).gen= g at a l;go_wp2_with fail;go_roundw;case rel=>exact ⟨k+1,max n g,by go_num,congrArg (Value.int IntKind.u32) (by omega),by omega,hT (by rw [l.out,f.out]),hT (hw.out.alloc hw.out.size _)⟩
   case measure=>simp [wo];omega
  ·have d1:decide ((k:Int) <16)= false:=by simp;omega
   have c:decide (k<16)= false:=by simp;omega
   have e:k= 16:=by omega
   subst e;have d:Hid (n= E.dG):=f;go_wp2_with fail;go_ret;exact ⟨by rw [d.out];rfl,hw.out⟩
structure Told (B:Eb) (E:En) (c:Int) (w:World) (sz se fs fl fe:Int):Prop where
 lI:∀w1,zF 51 #[zO E.a E.n E.g] w1 λ e w'=>e= nf (zM E.n E.g)/\zB w1 w'
 ve:∀w1,zF 78 #[zO E.a E.n E.g] w1 λ e w'=>e= nf (zM (17+ (E.n:Int)) ((E.a:Int) - (17+ (E.n:Int))))/\zB w1 w'
 rA:∀w1,zF 110 #[zM E.n E.g,zI c] w1 λ e w'=>e= zV (zI sz) (zI se)/\zB w1 w'
 use:∀w1,zB w w1->zF 79 #[zP B.q] w1 λ e w'=>∃p c,e= nf (.slice p E.bB.length c)/\Xm.bd w' p E.bB/\zB w1 w'
 fit:se= 0->∀w1 p c',Xm.bd w1 p E.bB->zF 111 #[zM (17+ (E.n:Int)) ((E.a:Int) - (17+ (E.n:Int))),zI sz, .slice p E.bB.length c'] w1 λ e w'=>e= zV (zM fs fl) (zI fe)/\zB w1 w'
 gen:∀w1,zB w w1->zF 112 #[zP B.q] w1 λ e w'=>e= nf (zU E.dG)/\zB w1 w'
theorem Ou (h:Hd w B E) {c sz se fs fl fe:Int} (f:Told B E c w sz se fs fl fe) (m:se≠0): zF 47 #[zP B.q,zI c] w λe w'=>e= zV (Sv 0 0 0 0) (zI se)/\zB w w':=by
 have GE:=hT f.lI;have r:=hT f.rA;obtain ⟨n,b⟩:=eX2 (w.alloc (hV #[zI 0,zI 0,zI 0,zU 0] 68));have l:Hid (zB w n):=hT (by rw [<-b];exact zA);have i:Hid (n.heap[w.heap.size]?= some (hV #[zI 0,zI 0,zI 0,zU 0] 68 (0,0))):=hT (by rw [<-b];exact heap_alloc_new w _);obtain ⟨o,a1,a2,_⟩:=(h.below l.out).low;have d0:(se != 0):=by simpa using m
 unfold Sv;clear h f m;go_enter func47,ntmps47;go_wp2_with fail;clear b;refine zg (GE.out _) λw1 hb=>?_;have d:=hT hb;clear hb;go_wp2_with fail;refine zg (r.out _) λw2 hb=>?_;have k:=zT d hb;have a:=(hb.block w.heap.size (ti (DN.1 i.out).1 d.out.size)).trans ((d.out.block w.heap.size (DN.1 i.out).1).trans i.out);obtain ⟨y,x,v,t⟩:w2.cell? (zz w 0)= some (zI 0)/\w2.cell? (zz w 1)= some (zI 0)/\w2.cell? (zz w 2)= some (zI 0)/\w2.cell? (zz w 3)= some (zU 0):=by refine ⟨?_,?_,?_,?_⟩<;>(rw [cell_of_row _ _ _ _ _ _ a];rfl)
 have s:∀j,w2.frozen? (zz w j)= false:=λj=>frozen_of_row (j:=j) _ _ _ _ a;have g:=hT a;clear hb a o a1 a2;go_wp2_with fail;refine bodyPost_ret (gH (p:=4) (u:=5) rfl _ _ w.heap.size _ _ _ _ _ rfl rfl (dc g.out _ _ _ _)) rfl ⟨rfl,dd (l.out.trans (k.out.mono l.out.size)) (nm _) _ _ _ _⟩
theorem Ov (h:Hd w B E) {c sz se fs fl fe:Int} (i:Told B E c w sz se fs fl fe) (v:se= 0) (h1:fe≠0): zF 47 #[zP B.q,zI c] w λe w'=>e= zV (Sv 0 0 0 0) (zI fe)/\zB w w':=by
 have GE:=hT i.lI;have S:=hT i.rA;have ST:=hT i.ve;have I:=hT i.use;have s:=hT (i.fit v);obtain ⟨x,f⟩:=eX2 (w.alloc (hV #[zI 0,zI 0,zI 0,zU 0] 68));have K:Hid (zB w x):=hT (by rw [<-f];exact zA);have J:Hid (x.heap[w.heap.size]?= some (hV #[zI 0,zI 0,zI 0,zU 0] 68 (0,0))):=hT (by rw [<-f];exact heap_alloc_new w _);obtain ⟨R,a1,a2,_⟩:=(h.below K.out).low;have T:Hid (∀w1,zB w w1->w1.cell? (zD B.q 0)= some (zI E.a)/\w1.cell? (zD B.q 1)= some (zI E.n)/\w1.cell? (zD B.q 2)= some (zI E.g)):=hT λw1 b=>⟨(h.below b).low.1,(h.below b).low.2.1,(h.below b).low.2.2.1⟩;have A:Hid (∀w1,zB x w1->zB w w1):=hT λw1 b=>zH K b;have d1:(fe != 0):=by simpa using h1
 have d0:(se != 0)= false:=by simpa using v
 unfold Sv;generalize 17+ (E.n:Int)= s1 at ST s;generalize (E.a:Int) - s1= s2 at ST s;generalize E.bB.length= ul at I s;clear h i v h1;go_enter func47,ntmps47;go_wp2_with fail;clear f;refine zg (GE.out _) λw1 b=>?_;have F:=hT b;clear b;go_wp2_with fail;refine zg (S.out _) λw2 b=>?_;have r:=zT F b;obtain ⟨P,O,N⟩:=T.out w2 (A.out w2 r.out);clear b R a1 a2;go_wp2_with fail;refine zg (ST.out _) λw3 b=>?_;have o:=zT r b;have y:=hT (I.out w3 (A.out w3 o.out));clear b P O N;go_wp2_with fail;refine y.out.mono ?_;rintro e L ⟨M,Q,rfl,H,b⟩;have D:=zT o b;have G:=hT (s.out L M Q H);clear b H;go_wp2_with fail;refine zg G.out λw5 b=>?_;have C:=zT D b;clear b;obtain ⟨k,t⟩:=eX2 (w5.alloc (zE fs fl 65));have l:zB w5 k:=by rw [<-t];exact zA
 have m:=zT C l;have d:=(m.out.block w.heap.size (DN.1 J.out).1).trans J.out;obtain ⟨Y,X,W,V⟩:k.cell? (zz w 0)= some (zI 0)/\k.cell? (zz w 1)= some (zI 0)/\k.cell? (zz w 2)= some (zI 0)/\k.cell? (zz w 3)= some (zU 0):=by refine ⟨?_,?_,?_,?_⟩<;>(rw [cell_of_row _ _ _ _ _ _ d];rfl)
 have U:∀j,k.frozen? (zz w j)= false:=λj=>frozen_of_row (j:=j) _ _ _ _ d;have z:=hT d;clear l d;go_wp2_with fail;refine bodyPost_ret (gH (p:=4) (u:=5) rfl _ _ w.heap.size _ _ _ _ _ rfl rfl (dc z.out _ _ _ _)) rfl ⟨rfl,dd (A.out _ m.out) (nm _) _ _ _ _⟩
theorem Ow (h:Hd w B E) {c sz se fs fl fe:Int} (f:Told B E c w sz se fs fl fe) (D:se= 0) (h1:fe= 0) (O:E.dG= 4294967295): zF 47 #[zP B.q,zI c] w λe w'=>e= zV (Sv 0 0 0 0) (zI 2)/\zB w w':=by
 have GE:=hT f.lI;have SZ:=hT f.rA;have ST:=hT f.ve;have P:=hT f.use;have A:=hT (f.fit D);have S:=hT f.gen;obtain ⟨F,k⟩:=eX2 (w.alloc (hV #[zI 0,zI 0,zI 0,zU 0] 68));have R:Hid (zB w F):=hT (by rw [<-k];exact zA);have Q:Hid (F.heap[w.heap.size]?= some (hV #[zI 0,zI 0,zI 0,zU 0] 68 (0,0))):=hT (by rw [<-k];exact heap_alloc_new w _);obtain ⟨Z,a1,a2,_⟩:=(h.below R.out).low;have HL:Hid (∀w1,zB w w1->w1.cell? (zD B.q 0)= some (zI E.a)/\w1.cell? (zD B.q 1)= some (zI E.n)/\w1.cell? (zD B.q 2)= some (zI E.g)):=hT λw1 b=>⟨(h.below b).low.1,(h.below b).low.2.1,(h.below b).low.2.2.1⟩;have z:Hid (∀w1,zB F w1->zB w w1):=hT λw1 b=>zH R b;have d1:(fe != 0)= false:=by simpa using h1
 rw [O]at S;have d0:(se != 0)= false:=by simpa using D
 unfold Sv;generalize 17+ (E.n:Int)= s1 at ST A;generalize (E.a:Int) - s1= s2 at ST A;generalize E.bB.length= ul at P A;clear h f D h1 O;go_enter func47,ntmps47;go_wp2_with fail;clear k;refine zg (GE.out _) λw1 b=>?_;have K:=hT b;clear b;go_wp2_with fail;refine zg (SZ.out _) λw2 b=>?_;have x:=zT K b;obtain ⟨X,W,V⟩:=HL.out w2 (z.out w2 x.out);clear b Z a1 a2;go_wp2_with fail;refine zg (ST.out _) λw3 b=>?_;have v:=zT x b;have G:=hT (P.out w3 (z.out w3 v.out));clear b X W V;go_wp2_with fail;refine G.out.mono ?_;rintro e T ⟨U,Y,rfl,N,b⟩;have J:=zT v b;have M:=hT (A.out T U Y N);clear b N;go_wp2_with fail;refine zg M.out λw5 b=>?_;have I:=zT J b;clear b;obtain ⟨y,i⟩:=eX2 (w5.alloc (zE fs fl 65));have o:zB w5 y:=by rw [<-i];exact zA
 have t:=zT I o;have m:y.heap[w5.heap.size]?= some (hV #[zI fs,zI fl] 65 (0,0)):=by rw [<-i];exact heap_alloc_new w5 _
 have L:=hT (S.out y (z.out y t.out));have r:=hT m;clear o m;go_wp2_with fail;clear i;refine zg L.out λl b=>?_;have s:=zT t b;have C:=(b.block w5.heap.size (DN.1 r.out).1).trans r.out;have d:=(s.out.block w.heap.size (DN.1 Q.out).1).trans Q.out;obtain ⟨x0,x1,x2,x3⟩:l.cell? (zz w 0)= some (zI 0)/\l.cell? (zz w 1)= some (zI 0)/\l.cell? (zz w 2)= some (zI 0)/\l.cell? (zz w 3)= some (zU 0):=by refine ⟨?_,?_,?_,?_⟩<;>(rw [cell_of_row _ _ _ _ _ _ d];rfl)
 have xf:∀j,l.frozen? (zz w j)= false:=λj=>frozen_of_row (j:=j) _ _ _ _ d;have H:=hT d;clear b C d;go_wp2_with fail;refine bodyPost_ret (gH (p:=4) (u:=5) rfl _ _ w.heap.size _ _ _ _ _ rfl rfl (dc H.out _ _ _ _)) rfl ⟨rfl,dd (z.out _ s.out) (nm _) _ _ _ _⟩
theorem Ox (h:Hd w B E) {c sz se fs fl fe:Int} (i:Told B E c w sz se fs fl fe) (D:se= 0) (h1:fe= 0) (h2:E.dG<4294967295): zF 47 #[zP B.q,zI c] w λe w'=>e= zV (Sv 1 fs fl (E.dG+1)) (zI 0)/\zB w w':=by
 have GE:=hT i.lI;have Z:=hT i.rA;have ST:=hT i.ve;have O:=hT i.use;have C:=hT (i.fit D);have R:=hT i.gen;obtain ⟨F,m⟩:=eX2 (w.alloc (hV #[zI 0,zI 0,zI 0,zU 0] 68));have Q:Hid (zB w F):=hT (by rw [<-m];exact zA);have P:Hid (F.heap[w.heap.size]?= some (hV #[zI 0,zI 0,zI 0,zU 0] 68 (0,0))):=hT (by rw [<-m];exact heap_alloc_new w _);obtain ⟨Y,a1,a2,_⟩:=(h.below Q.out).low;have HL:Hid (∀w1,zB w w1->w1.cell? (zD B.q 0)= some (zI E.a)/\w1.cell? (zD B.q 1)= some (zI E.n)/\w1.cell? (zD B.q 2)= some (zI E.g)):=hT λw1 b=>⟨(h.below b).low.1,(h.below b).low.2.1,(h.below b).low.2.2.1⟩;have A:Hid (∀w1,zB F w1->zB w w1):=hT λw1 b=>zH Q b;have d1:(fe != 0)= false:=by simpa using h1
 have d2:((E.dG:Int) == 4294967295)= false:=by simp;omega
 have d3:IntKind.u32.wrap ((E.dG:Int) +1)= ((E.dG+1:Nat):Int):=IntWalk.u32_in _ (by omega)|>.trans (by omega);generalize E.dG= mg at R d2 d3⊢;have d0:(se != 0)= false:=by simpa using D
 unfold Sv;generalize 17+ (E.n:Int)= s1 at ST C;generalize (E.a:Int) - s1= s2 at ST C;generalize E.bB.length= ul at O C;clear h i D h1;go_enter func47,ntmps47;go_wp2_with fail;clear m;refine zg (GE.out _) λw1 b=>?_;have K:=hT b;clear b;go_wp2_with fail;refine zg (Z.out _) λw2 b=>?_;have y:=zT K b;obtain ⟨W,V,U⟩:=HL.out w2 (A.out w2 y.out);clear b Y a1 a2;go_wp2_with fail;refine zg (ST.out _) λw3 b=>?_;have x:=zT y b;have G:=hT (O.out w3 (A.out w3 x.out));clear b W V U;go_wp2_with fail;refine G.out.mono ?_;rintro e S ⟨T,X,rfl,N,b⟩;have J:=zT x b;have M:=hT (C.out S T X N);clear b N;go_wp2_with fail;refine zg M.out λw5 b=>?_;have I:=zT J b;clear b;obtain ⟨z,l⟩:=eX2 (w5.alloc (zE fs fl 65));have r:zB w5 z:=by rw [<-l];exact zA
 have v:=zT I r;have o:z.heap[w5.heap.size]?= some (hV #[zI fs,zI fl] 65 (0,0)):=by rw [<-l];exact heap_alloc_new w5 _
 have L:=hT (R.out z (A.out z v.out));have s:=hT o;clear r o;go_wp2_with fail;clear l;refine zg L.out λf b=>?_;have t:=zT v b;have k:=(b.block w5.heap.size (DN.1 s.out).1).trans s.out;have m0:f.cell? (zz w5 0)= some (zI fs):=zW k;have m1:f.cell? (zz w5 1)= some (zI fl):=zW k;have d:=(t.out.block w.heap.size (DN.1 P.out).1).trans P.out;obtain ⟨x0,x1,x2,x3⟩:f.cell? (zz w 0)= some (zI 0)/\f.cell? (zz w 1)= some (zI 0)/\f.cell? (zz w 2)= some (zI 0)/\f.cell? (zz w 3)= some (zU 0):=by refine ⟨?_,?_,?_,?_⟩<;>(rw [cell_of_row _ _ _ _ _ _ d];rfl)
 have xf:∀j,f.frozen? (zz w j)= false:=λj=>frozen_of_row (j:=j) _ _ _ _ d;have H:=hT d;clear b k d;go_wp2_with fail;refine bodyPost_ret (gH (p:=4) (u:=5) rfl _ _ w.heap.size _ _ _ _ _ rfl rfl (dc H.out _ _ _ _)) rfl ⟨rfl,dd (A.out _ t.out) (nm _) _ _ _ _⟩
def dH (E:En) (c:Int):Int:=Geo.refuse (E.n:Int) (E.g:Int) c 1 1048576
def bC (E:En) (c:Int):Int:=if dH E c= 0 then ((Em.size E.g c.toNat:Nat):Int) else 0
theorem rB (e:Good E st):Xm.In E.bB E.bB.length:=by
 have d:=re E 16;refine ⟨rfl,λx hx=>?_,?_,?_⟩;·
  unfold En.bB aR at hx;obtain ⟨i,hi,rfl⟩:=List.mem_map.1 hx;obtain ⟨c,b⟩:=List.mem_filter.1 hi;have a:=RP.1 c;have f:(E.one i).t≠0:=by simpa using b
  have hp:=e.ok i a f;have h1:=hp.high;have h:=hp.ag.a1;have g:(E.pa i).st= (E.one i).st:=rfl;show ((E.one i).st:Int)<=_;omega
 ·show E.bB.length<=maxLen;unfold maxLen;have:E.bB.length<=16:=d;omega
 ·have:E.bB.length<=16:=d;omega
theorem Oy (h:Hd w B E) (d:Good E st) (e:Em.aM (E.n:Int) (E.g:Int)) (c:Int): Told B E c w (bC E c) (dH E c) (Xm.cJ (17+ (E.n:Int)) ((E.a:Int) - (17+ (E.n:Int))) (bC E c) E.bB) (Xm.cK (17+ (E.n:Int)) ((E.a:Int) - (17+ (E.n:Int))) (bC E c) E.bB) (Xm.dA (17+ (E.n:Int)) ((E.a:Int) - (17+ (E.n:Int))) (bC E c) E.bB):=by
 refine ⟨λw1=>gC _ _ _ w1 d.aj,λw1=>lr _ _ _ w1 d.aj,λw1=>?_,λw1 hb=>uY (h.below hb),λ_ w1 p c' he=>Xm.Oo _ _ _ (rB d) p c' w1 he,λw1 hb=>Oh (h.below hb)⟩;unfold bC;by_cases b:dH E c= 0;·
  rw [if_pos b,b];have f:1<=c/\c<=1048576:=by
   unfold dH at b;by_cases i:c<1\/1048576<c;· rw [Geo.lP e i]at b;exact absurd b (by decide)
   ·omega
  obtain ⟨k,rfl⟩:∃k:Nat,c= (k:Int):=⟨c.toNat,by omega⟩;rw [GH];exact Geo.Li E.n E.g k w1 e (by omega) (by omega)
 ·rw [if_neg b];exact Geo.Lh _ _ c w1 b
end Se
end
end Go.Proofs.YtchihokmgmchcaaGreat
