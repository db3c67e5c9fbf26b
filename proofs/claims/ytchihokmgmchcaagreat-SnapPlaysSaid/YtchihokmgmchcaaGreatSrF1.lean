/- F1, of the proof -/
import Derived.Test.YtchihokmgmchcaaGreatSrD1
import Derived.Test.YtchihokmgmchcaaGreatSrC2
import Derived.Test.YtchihokmgmchcaaGreatSq0K
set_option linter.unusedVariables false
set_option maxRecDepth 100000
set_option maxHeartbeats 4000000
namespace Go.Proofs.YtchihokmgmchcaaGreat
open Go.Proofs.Tryz
open Go.Obj renaming cells->hV
open Go.Result renaming andThen->Ty
open Go.Lib renaming hid->hT
open Go.IntKind renaming i64->lg
open Go.IntWalk renaming i64_in->rr
open Nat renaming lt_of_lt_of_le->ti
open Bool renaming eq_false_iff->Uc
open Go.Ending renaming returned->nf
open List renaming replicate->vw
section
namespace Og
open Go.RowKit
def hasB (n:Nat) (a k:Int):Bool:=decide (0<=a) && decide (0<=k) && decide (k<=(n:Int) - a)
variable{n:Nat}
theorem mu {a k:Int}:hasB n a k= true↔0<=a/\0<=k/\k<=(n:Int) - a:=by simp [hasB,and_assoc]
def rE (n:Nat) (st:Dm.St) (a k:Int):Int:=if hasB n a k= true then Dm.aY st (17+a) k else 2
def rS (n:Nat) (st:Dm.St) (a k:Int):zL:=if hasB n a k= true then Dm.aA st (17+a) k else []
def wE (n:Nat) (st:Dm.St) (a:Int) (d:zL):Int:=if d.length % 64= 0 then if hasB n a ((d.length / 64:Nat):Int)= true then (Dm.write st (17+a) d).2 else 2 else 1
def wS (n:Nat) (st:Dm.St) (a:Int) (d:zL):Dm.St:=if d.length % 64= 0 then if hasB n a ((d.length / 64:Nat):Int)= true then (Dm.write st (17+a) d).1 else st else st
structure Bo where
 q:Nat
 d:ae.Ob
def Bo.fp (o:Bo) (k:Nat):Prop:=k= o.q\/o.d.fp k
def Bo.cells (o:Bo) (n g:Nat):Array Value:=#[zP o.d.p,zI 17,zI n,zI n,zI g]
structure Gk (w:World) (o:Bo) (n g:Nat) (st:Dm.St):Prop where
 head:w.heap[o.q]?= some (hV (o.cells n g) 205 (0,0))
 dk:ae.Dk w o.d st
 qd:¬o.d.fp o.q
 right:Em.aM (n:Int) (g:Int)= true
 room:17+n<=st.S.length
variable{w:World}{o:Bo}{g:Nat}{st:Dm.St}
theorem Gk.lt (h:Gk w o n g st) (k:Nat) (hk:o.fp k):k<w.heap.size:=by
 rcases hk with rfl|hk;· exact ae.lt_of_heap h.head
 ·exact h.dk.lt k hk
variable{w':World}
theorem Gk.same (h:Gk w o n g st) (hb:∀k,o.fp k->w'.heap[k]?= w.heap[k]?):Gk w' o n g st:= ⟨(hb _ (.inl rfl)).trans h.head,h.dk.same λk hk=>hb k (.inr hk),h.qd,h.right,h.room⟩
theorem Gk.below (h:Gk w o n g st) (hb:zB w w'):Gk w' o n g st:=h.same λk hk=>hb.block k (h.lt k hk)
variable{F:Nat→Prop}
theorem Gk.keep (h:Gk w o n g st) (hf:ae.Fr F w w') (hd:∀k,o.fp k->¬F k):Gk w' o n g st:=h.same λk hk=>hf.block k (h.lt k hk) (hd k hk)
theorem Gk.reads (h:Gk w o n g st): w.cell? (zD o.q 0)= some (zP o.d.p)/\w.cell? (zD o.q 1)= some (zI 17)/\w.cell? (zD o.q 2)= some (zI n)/\ w.cell? (zD o.q 3)= some (zI n)/\w.cell? (zD o.q 4)= some (zI g):=by refine ⟨?_,?_,?_,?_,?_⟩<;>(rw [cell_of_row _ _ _ _ _ _ h.head];rfl)
theorem Gk.small (h:Gk w o n g st):1<=n/\n<=1048576/\1<=g/\g<=128:=by have:=(Em.cM (n:Int) (g:Int)).1 h.right;omega
structure Step (o o':Bo) (w w':World):Prop where
 fr:ae.Fr o.fp w w'
 fp:∀k,o'.fp k->o.fp k\/w.heap.size<=k
 q:o'.q= o.q
 d:ae.Step o.d o'.d w w'
theorem Step.ax (h:zB w w'):Step o o w w':=⟨ae.Fr.ax h,λ_ h=> .inl h,rfl,ae.Step.ax h⟩
theorem Step.trans {a b c:Bo} {u v:World} (h:Step a b u v) (k:Step b c v w):Step a c u w:=by
 refine ⟨h.fr.trans k.fr λi hi hb=>?_,λi hi=>?_,k.q.trans h.q,h.d.trans k.d⟩;·
  rcases h.fp i hb with h1|h1;· exact h1
  ·omega
 ·rcases k.fp i hi with h1|h1;· exact h.fp i h1
  ·exact .inr (Nat.le_trans h.fr.size h1)
theorem Gk.iH {st':Dm.St} (h:Gk w o n g st) {d':ae.Ob} (hd:ae.Dk w' d' st') (a:ae.Step o.d d' w w') (e:st'.S.length= st.S.length): Gk w' ⟨o.q,d'⟩ n g st'/\Step o ⟨o.q,d'⟩ w w':=by
 have b:=h.lt o.q (.inl rfl);refine ⟨⟨?_,hd,λhk=>(a.fp _ hk).elim h.qd (λc=>by have c:w.heap.size<=o.q:=c;omega),h.right,by rw [e];exact h.room⟩,⟨a.fr.mono λk _ hk=> .inr hk,λk hk=>?_,rfl,a⟩⟩;· show w'.heap[o.q]?= some (hV #[zP d'.p,_,_,_,_] _ _);rw [a.fr.block o.q b h.qd,h.head,a.p];rfl
 ·rcases hk with rfl|hk;· exact .inl (.inl rfl)
  ·exact (a.fp k hk).imp (λh=> .inr h) id
def ai (o:Bo) (n g:Nat) (st:Dm.St) (w w':World):Prop:=∃o',Gk w' o' n g st/\Step o o' w w'
theorem ai.ax (h:Gk w o n g st) (hb:zB w w'):ai o n g st w w':=⟨o,h.below hb,Step.ax hb⟩
theorem ai.below {w1 w2:World} (b:zB w w1) (h:ai o n g st w1 w2):ai o n g st w w2:=by obtain ⟨a,h1,c⟩:=h;exact ⟨a,h1,(Step.ax b).trans c⟩
theorem Gk.lh {st':Dm.St} (h:Gk w o n g st) (i:ae.Fr F w w') (b:¬F o.q) {d':ae.Ob} (hd:ae.Dk w' d' st') (hp:d'.p= o.d.p) (e:∀k,d'.fp k->o.d.fp k\/w.heap.size<=k) (f:st'.S.length= st.S.length):Gk w' ⟨o.q,d'⟩ n g st':=by have a:=h.lt o.q (.inl rfl);refine ⟨?_,hd,λhk=>(e _ hk).elim h.qd (λc=>by have c:w.heap.size<=o.q:=c;omega),h.right,by rw [f];exact h.room⟩;show w'.heap[o.q]?= some (hV #[zP d'.p,_,_,_,_] _ _);rw [i.block o.q a b,h.head,hp];rfl
end Og
end
section
open Go.RowKit
theorem xJ {W:World} {g:Nat} {x y z:Value} {t:TypeId} (h:W.heap[g]?= some (hV #[x,y,z] t (0,0))): W.cell? (zD g 0)= some x/\W.cell? (zD g 1)= some y/\W.cell? (zD g 2)= some z/\∀j,W.frozen? (zD g j)= false:= ⟨zW h,zW h,zW h,λj=>frozen_of_row (j:=j) _ _ _ _ h⟩
theorem xK {fn:Func} {p u:Tmp} (h:fn.results= #[.cell p 85, .tmp u]) (tmps:Array Value) (w:World) (g:Nat) (x0 x1 x2 v:Value) (hp:tmps.getD p undef= zP g) (hu:tmps.getD u undef= v) (a:w.heap[g]?= some (hV #[x0,x1,x2] 85 (0,0))): (results fn tmps).run prog w= .ok (.tuple #[.agg #[x0,x1,x2],v]) w:=by
 have hi:(prog.info? 85).map (·.size)= some (#[x0,x1,x2]:Array Value).size:=by kernel_rfl
 rw [results_cell_tmp h,hp,hu];simp [asAddr,run_loadVar_row w g 85 85 #[x0,x1,x2] (0,0) _ a underlying85 rfl hi,Ty]
theorem xL (w:World) (a n g:Int) (W0:World) (h:(w.alloc (zK a n g 23)).alloc (zK 0 0 0 85)= W0): zB w W0/\Ux W0 w.heap.size a n g/\W0.heap[w.heap.size+1]?= some (hV #[zI 0,zI 0,zI 0] 85 (0,0))/\W0.heap.size= w.heap.size+2:=by
 subst h;have h1:=jc w a n g 23;have b:=heap_alloc_new (w.alloc (zK a n g 23)) (zK 0 0 0 85);have c:(w.alloc (zK a n g 23)).heap.size= w.heap.size+1:=by simp
 rw [c]at b;exact ⟨(zA).alloc (by simp) _,h1.next zA,b,by simp⟩
theorem tp (a n g:Int) (w:World) (h:Um.aj a n g):zF 40 #[zO a n g] w λe w'=>e= zV (zO a n g) (zI 0)/\zB w w':=by have R:=hT (λw1=>nT a n g w1);rw [h]at R;unfold Uv at R;obtain ⟨m,d⟩:=eX2 ((w.alloc (zK a n g 23)).alloc (zK 0 0 0 85));obtain ⟨k,i,j,c⟩:=xL w a n g m d;have t:=hT k;have r:=hT i;have s:=hT j;have o:=hT c;obtain ⟨_,l,a1,a2⟩:=i;clear k j c h;go_enter func40,ntmps40;go_wp2_with fail;clear d l a1 a2;refine zg (R.out _) λw1 hb=>?_;have b:=(hb.block (w.heap.size+1) (by rw [o.out];omega)).trans s.out;have f:=zT t hb;have q:=hT b;obtain ⟨_,l,a1,a2⟩:=r.out.next hb;obtain ⟨z,y,x,v⟩:=xJ b;clear hb b;go_wp2_with fail;refine bodyPost_ret (xK (p:=2) (u:=3) rfl _ _ (w.heap.size+1) _ _ _ _ rfl rfl (lq q.out _ _ _)) rfl ⟨rfl,?_⟩;exact km f.out (by omega) _ _ _
theorem Gt (a n g:Int) (w:World) (h:Um.aj a n g= false):zF 40 #[zO a n g] w λe w'=>e= zV (zO 0 0 0) (zI 1)/\zB w w':=by have R:=hT (λw1=>nT a n g w1);rw [h]at R;unfold Uv at R;obtain ⟨m,d⟩:=eX2 ((w.alloc (zK a n g 23)).alloc (zK 0 0 0 85));obtain ⟨k,i,j,c⟩:=xL w a n g m d;have t:=hT k;have r:=hT i;have s:=hT j;have o:=hT c;obtain ⟨_,l,a1,a2⟩:=i;clear k j c h;go_enter func40,ntmps40;go_wp2_with fail;clear d l a1 a2;refine zg (R.out _) λw1 hb=>?_;have b:=(hb.block (w.heap.size+1) (by rw [o.out];omega)).trans s.out;have f:=zT t hb;have q:=hT b;obtain ⟨_,l,a1,a2⟩:=r.out.next hb;obtain ⟨z,y,x,v⟩:=xJ b;clear hb b;go_wp2_with fail;refine bodyPost_ret (xK (p:=2) (u:=3) rfl _ _ (w.heap.size+1) _ _ _ _ rfl rfl (lq q.out _ _ _)) rfl ⟨rfl,?_⟩;exact km f.out (by omega) _ _ _
theorem nU (a n g:Int) (w:World):zF 116 #[zO a n g] w (zJ (.bool (Um.aj a n g)) w):=by have e:Hid (zB w (w.alloc (zK a n g 85))):=zA;have m:=hT (jc w a n g 85);obtain ⟨_,d,a1,a2⟩:=m.out;cases hok:Um.aj a n g with
 | true =>
 have C:=hT (λw1=>tp a n g w1 hok);obtain ⟨h1,k,j,i,h,f⟩:=Um.cT hok;have d0:(a == 0)= false:=by simp;omega
 clear hok h1 k j i h f;go_enter func116,ntmps116;go_wp2_with fail;refine zg (C.out _) λw1 hb=>?_;have b:=zH e hb;have c:=hT (b.alloc b.size (zK a n g 85));obtain ⟨_,l,b1,b2⟩:=jc w1 a n g 85;clear hb b d a1 a2;go_wp2_with fail;go_ret;exact ⟨rfl,c.out⟩
 | false => have C:=hT (λw1=>Gt a n g w1 hok);clear hok;go_enter func116,ntmps116;go_wp2_with fail;refine zg (C.out _) λw1 hb=>?_;have b:=zH e hb;have c:=hT (b.alloc b.size (zK 0 0 0 85));obtain ⟨_,l,b1,b2⟩:=jc w1 0 0 0 85;clear hb b d a1 a2;go_wp2_with fail;go_ret;exact ⟨rfl,c.out⟩
end
section
open Go.RowKit
variable{g:Nat}{t:TypeId}
theorem bR {W:World} {x y:Value} (h:W.heap[g]?= some (hV #[x,y] t (0,0))): W.cell? (zD g 0)= some x/\W.cell? (zD g 1)= some y/\∀j,W.frozen? (zD g j)= false:= ⟨zW h,zW h,λj=>frozen_of_row (j:=j) _ _ _ _ h⟩
theorem fX {w:World} {a b:Value} (h:w.heap[g]?= some (hV #[a,b] t (0,0))) (x y:Value):((w.setCell ⟨g,0,none⟩ x).setCell ⟨g,1,none⟩ y).heap[g]?= some (hV #[x,y] t (0,0)):=by rw [heap_setCell_same _ _ _ _ _ _ (heap_setCell_same _ _ _ _ _ _ h)];rfl
theorem fY {B:Nat} {a w:World} (h:Below B a w) (hg:B<=g) (x y:Value):Below B a ((w.setCell ⟨g,0,none⟩ x).setCell ⟨g,1,none⟩ y):= (h.setCell (p:=(zD g 0)) hg x).setCell (p:=(zD g 1)) hg y
structure Dx (W:World) (k:Nat) (x y:Int):Prop where
 lt:k<W.heap.size
 c0:W.cell? (zD k 0)= some (zI x)
 c1:W.cell? (zD k 1)= some (zI y)
theorem b_ (w:World) (o:Obj):zB w (w.alloc o):=zA
end
section
open Go.RowKit
theorem tr (w:World) (a n g:Int) (ty:TypeId) (W0:World) (h:(w.alloc (zK a n g 85)).alloc (zE 0 0 ty)= W0): zB w W0/\Ux W0 w.heap.size a n g/\W0.heap[w.heap.size+1]?= some (hV #[zI 0,zI 0] ty (0,0))/\W0.heap.size= w.heap.size+2:=by
 subst h;have h1:=jc w a n g 85;have b:=heap_alloc_new (w.alloc (zK a n g 85)) (zE 0 0 ty);have c:(w.alloc (zK a n g 85)).heap.size= w.heap.size+1:=by simp
 rw [c]at b;exact ⟨(zA).alloc (by simp) _,h1.next zA,b,by simp⟩
theorem Gu:(prog.info? 103).map (·.size)= some (#[zI 0,zI 0]:Array Value).size:=by kernel_rfl
theorem tu:(prog.info? 65).map (·.size)= some (#[zI 0,zI 0]:Array Value).size:=by kernel_rfl
theorem gC (a n g:Int) (w:World) (h:Um.aj a n g):zF 51 #[zO a n g] w (zJ (zM (n) (g)) w):=by have R:=hT (λw1=>nU a n g w1);rw [h]at R;obtain ⟨h1,r,q,o,m,l⟩:=Um.cT h;clear h1 r q o m l;obtain ⟨s,d⟩:=eX2 ((w.alloc (zK a n g 85)).alloc (zE 0 0 103));obtain ⟨j,f,i,c⟩:=tr w a n g 103 s d;have y:=hT j;have v:=hT f;have x:=hT i;have t:=hT c;obtain ⟨_,k,a1,a2⟩:=f;clear j i c h;go_enter func51,ntmps51;go_wp2_with fail;clear d k a1 a2;refine zg (R.out _) λw1 hb=>?_;have b:=(hb.block (w.heap.size+1) (by rw [t.out];omega)).trans x.out;have e:=zT y hb;have u:=hT b;obtain ⟨_,k,a1,a2⟩:=v.out.next hb;obtain ⟨B,A,z⟩:=bR b;clear hb b;go_wp2_with fail;refine bodyPost_ret (results_cell_row (p:=2) (ty:=103) rfl _ _ (w.heap.size+1) 103 _ (0,0) _ rfl (fX u.out _ _) underlying103 rfl Gu) rfl ⟨rfl,?_⟩;exact fY e.out (by omega) _ _
theorem Gv (a n g:Int) (w:World) (h:Um.aj a n g):zF 154 #[zO a n g] w (zJ (zM (17) (n)) w):=by have R:=hT (λw1=>nU a n g w1);rw [h]at R;obtain ⟨h1,r,q,o,m,l⟩:=Um.cT h;clear h1 r q o m l;obtain ⟨s,d⟩:=eX2 ((w.alloc (zK a n g 85)).alloc (zE 0 0 65));obtain ⟨j,f,i,c⟩:=tr w a n g 65 s d;have y:=hT j;have v:=hT f;have x:=hT i;have t:=hT c;obtain ⟨_,k,a1,a2⟩:=f;clear j i c h;go_enter func154,ntmps154;go_wp2_with fail;clear d k a1 a2;refine zg (R.out _) λw1 hb=>?_;have b:=(hb.block (w.heap.size+1) (by rw [t.out];omega)).trans x.out;have e:=zT y hb;have u:=hT b;obtain ⟨_,k,a1,a2⟩:=v.out.next hb;obtain ⟨B,A,z⟩:=bR b;clear hb b;go_wp2_with fail;refine bodyPost_ret (results_cell_row (p:=2) (ty:=65) rfl _ _ (w.heap.size+1) 65 _ (0,0) _ rfl (fX u.out _ _) underlying65 rfl tu) rfl ⟨rfl,?_⟩;exact fY e.out (by omega) _ _
theorem lr (a n g:Int) (w:World) (h:Um.aj a n g):zF 78 #[zO a n g] w (zJ (zM (17+n) (a - (17+n))) w):=by have R:=hT (λw1=>nU a n g w1);rw [h]at R;obtain ⟨h1,r,q,o,m,l⟩:=Um.cT h;have D:lg.wrap (17+n)= 17+n:=rr _ (by omega);have C:lg.wrap (a - (17+n))= a - (17+n):=rr _ (by omega);clear h1 r q o m l;obtain ⟨s,d⟩:=eX2 ((w.alloc (zK a n g 85)).alloc (zE 0 0 65));obtain ⟨j,f,i,c⟩:=tr w a n g 65 s d;have y:=hT j;have v:=hT f;have x:=hT i;have t:=hT c;obtain ⟨_,k,a1,a2⟩:=f;clear j i c h;go_enter func78,ntmps78;go_wp2_with fail;clear d k a1 a2;refine zg (R.out _) λw1 hb=>?_;have b:=(hb.block (w.heap.size+1) (by rw [t.out];omega)).trans x.out;have e:=zT y hb;have u:=hT b;obtain ⟨_,k,a1,a2⟩:=v.out.next hb;obtain ⟨B,A,z⟩:=bR b;clear hb b;go_wp2_with fail;refine bodyPost_ret (results_cell_row (p:=2) (ty:=65) rfl _ _ (w.heap.size+1) 65 _ (0,0) _ rfl (fX u.out _ _) underlying65 rfl tu) rfl ⟨rfl,?_⟩;exact fY e.out (by omega) _ _
theorem nV (a n g i:Int) (w:World) (h:Um.aj a n g) (h1:0<=i) (j:i<16):zF 105 #[zO a n g,zI i] w λe w'=>e= zV (zI (1+i)) (zI 0)/\zB w w':=by
 have R:=hT (λw1=>nU a n g w1);rw [h]at R;have d1:decide (i<0)= false:=by simp;omega
 have d2:decide (16<=i)= false:=by simp;omega
 have k:lg.wrap (1+i)= 1+i:=rr _ (by omega);have f:Hid (zB w (w.alloc (zK a n g 85))):=zA;have d:=hT (jc w a n g 85);obtain ⟨_,c,a1,a2⟩:=d.out;clear h;go_enter func105,ntmps105;go_wp2_with fail;refine zg (R.out _) λw1 hb=>?_;have b:=zT f hb;clear hb c a1 a2;go_wp2_with fail;go_ret2;exact ⟨rfl,b.out⟩
end
section
open Go.RowKit
def bH (p m s l:Int):Bool:=decide (0<=m) && (decide (s<=p) && decide (m<=s+l - p))
theorem xM (p m s l:Int):bH p m s l= true↔0<=m/\s<=p/\m<=s+l - p:=by unfold bH;simp
theorem Gw (w:World) (p m s l:Int) (W0:World) (h:(w.alloc (zE p m 65)).alloc (zE s l 65)= W0): zB w W0/\W0.cell? (zz w 0)= some (zI p)/\W0.cell? (zz w 1)= some (zI m)/\ W0.cell? (zD (w.heap.size+1) 0)= some (zI s)/\W0.cell? (zD (w.heap.size+1) 1)= some (zI l):=by
 subst h;have h1:=heap_alloc_new w (zE p m 65);have b:=heap_alloc_new (w.alloc (zE p m 65)) (zE s l 65);have c:(w.alloc (zE p m 65)).heap.size= w.heap.size+1:=by simp
 rw [c]at b;have d:Below (w.heap.size+1) (w.alloc (zE p m 65)) ((w.alloc (zE p m 65)).alloc (zE s l 65)):=zR.alloc (by simp) _;have a:=(d.block w.heap.size (by omega)).trans h1;obtain ⟨f,a1,_⟩:=bR a;obtain ⟨e,b1,_⟩:=bR b;exact ⟨(zA).alloc (by simp) _,f,a1,e,b1⟩
theorem mA (p m s l:Int) (w:World) (hp:p<=9223372036854775807) (d:0<=s) (h1:0<=s+l) (c:s+l<=1048576): zF 239 #[zM p m, zM s l] w (zJ (.bool (bH p m s l)) w):=by
 obtain ⟨g,a⟩:=eX2 ((w.alloc (zE p m 65)).alloc (zE s l 65));obtain ⟨f,k,a1,j,b1⟩:=Gw w p m s l g a;have e:=hT f;clear f;by_cases c1:0<=m;·
  have d1:decide (0<=m):=by simpa using c1
  by_cases c2:s<=p;·
   have d2:decide (s<=p):=by simpa using c2
   have i:lg.wrap (s+l)= s+l:=rr _ (by omega);have h:lg.wrap (s+l - p)= s+l - p:=rr _ (by omega);have b:=hT (show bH p m s l= decide (m<=s+l - p) by unfold bH;rw [d1,d2];rfl);clear c1 c2 hp d h1 c;go_enter func239,ntmps239;go_wp2_with fail;clear a;go_wp2_with fail;go_ret;exact ⟨by rw [b.out];rfl,e.out⟩
  ·have d2:decide (s<=p)= false:=by simpa using c2
   have b:=hT (show bH p m s l= false by unfold bH;rw [d1,d2];rfl);clear c1 c2 hp d h1 c;go_enter func239,ntmps239;go_wp2_with fail;clear a;go_wp2_with fail;go_ret;exact ⟨by rw [b.out];rfl,e.out⟩
 ·have d1:decide (0<=m)= false:=by simpa using c1
  have b:=hT (show bH p m s l= false by unfold bH;rw [d1];rfl);clear c1 hp d h1 c;go_enter func239,ntmps239;go_wp2_with fail;clear a;go_wp2_with fail;go_ret;exact ⟨by rw [b.out];rfl,e.out⟩
theorem ij (w:World) (a n g p m:Int) (W0:World) (h:(w.alloc (zK a n g 85)).alloc (zE p m 65)= W0): zB w W0/\Ux W0 w.heap.size a n g/\W0.cell? (zD (w.heap.size+1) 0)= some (zI p)/\W0.cell? (zD (w.heap.size+1) 1)= some (zI m)/\W0.heap.size= w.heap.size+2:=by
 subst h;have h1:=jc w a n g 85;have b:=heap_alloc_new (w.alloc (zK a n g 85)) (zE p m 65);have c:(w.alloc (zK a n g 85)).heap.size= w.heap.size+1:=by simp
 rw [c]at b;obtain ⟨d,b1,_⟩:=bR b;exact ⟨(zA).alloc (by simp) _,h1.next zA,d,b1,by simp⟩
theorem Gx {a n g:Int} (h:Um.aj a n g):0<=17+n/\0<=17+n+ (a - (17+n))/\17+n+ (a - (17+n))<=1048576:=by obtain ⟨h1,f,e,d,c,b⟩:=Um.cT h;omega
theorem Gy (a n g p:Int) (m:Nat) (w:World) (h:Um.aj a n g) (hp:p<=9223372036854775807) (hi:bH p m (17+n) (a - (17+n))): zF 204 #[zO a n g, zM p m] w λe w'=>e= zV (zI (Em.room g.toNat m:Nat)) (zI (Geo.jZ (Em.room g.toNat m)))/\zB w w':=by
 have R:=hT (λw1=>nU a n g w1);rw [h]at R;obtain ⟨h1,T,S⟩:=Gx h;obtain ⟨B,A,z,y,W,V⟩:=Um.cT h;obtain ⟨Z,Y,X⟩:=(xM _ _ _ _).1 hi;have C:=hT (λw1=>lr a n g w1 h);have D:=hT (λw1=>mA p m (17+n) (a - (17+n)) w1 hp h1 T S);rw [hi]at D;have G:=hT (λw1=>gC a n g w1 h);have x:=(Em.cM n g).2 ⟨B,A,z,y⟩;obtain ⟨N,L⟩:∃N:Nat,n= (N:Int):=⟨n.toNat,by omega⟩;obtain ⟨K,P⟩:∃K:Nat,g= (K:Int):=⟨g.toNat,by omega⟩;have E:Hid (∀w1:World,zF 240 #[zM n g,zI m] w1 λe w'=>e= zV (zI (Em.room g.toNat m:Nat)) (zI (Geo.jZ (Em.room g.toNat m)))/\zB w1 w'):=λw1=>by rw [L,P]at x⊢;exact Geo.C_ N K m w1 x (by omega)
 obtain ⟨r,j⟩:=eX1 (Em.room g.toNat m);rw [<-j]at E⊢;obtain ⟨e,J⟩:=eX1 (Geo.jZ r);rw [<-J]at E⊢;obtain ⟨s,H⟩:=eX1 (17+n);obtain ⟨l,I⟩:=eX1 (a - (17+n));rw [<-I]at C D;rw [<-H]at C D;obtain ⟨M,O⟩:=eX1 (m:Int);rw [<-O]at D E⊢;obtain ⟨U,k⟩:=eX2 ((w.alloc (zK a n g 85)).alloc (zE p M 65));obtain ⟨Q,F,f,b1,v⟩:=ij w a n g p M U k;have HB:=hT Q;have HX:=hT F;have b:w.heap.size+1<U.heap.size:=by omega
 obtain ⟨_,i,a1,a2⟩:=F;clear h Q v hi H I h1 T S hp B A z y W V Z Y X x L P j J O;go_enter func204,ntmps204;go_wp2_with fail;clear k;refine zg (R.out _) λw1 hb=>?_;replace f:=(hb.cell (p:=(zD (w.heap.size+1) 0)) b).trans f;replace b1:=(hb.cell (p:=(zD (w.heap.size+1) 1)) b).trans b1;have t:=zT HB hb;have o:=hT (HX.out.next hb);clear i a1 a2;obtain ⟨d,i,a1,a2⟩:=o.out;replace b:w.heap.size+1<w1.heap.size:=ti b hb.size;clear hb;go_wp2_with fail;go_region_held3 (λw'=>(w'.cell? (zz w 0)= some (zI a)/\w'.cell? (zz w 1)= some (zI n)/\w'.cell? (zz w 2)= some (zI g))/\w'.cell? (zD (w.heap.size+1) 0)= some (zI p)/\w'.cell? (zD (w.heap.size+1) 1)= some (zI M)) (first|go_keep|(refine ⟨⟨?_,?_,?_⟩,?_,?_⟩<;>assumption)|(exact ⟨⟨(c.out.cell (p:=(zz w 0)) d).trans i,(c.out.cell (p:=(zz w 1)) d).trans a1,(c.out.cell (p:=(zz w 2)) d).trans a2⟩,(c.out.cell (p:=(zD (w.heap.size+1) 0)) b).trans f,(c.out.cell (p:=(zD (w.heap.size+1) 1)) b).trans b1⟩)) (first|(go_at_call 78;refine zg (C.out _) λw2 hb2=>?_;have c:Hid (zB w1 w2):=zR.drew.trans hb2;have u:=c;clear hb2)|(go_at_call 239;refine zg (D.out _) λw3 hb3=>?_;have c:Hid (zB w1 w3):=zH u hb3;clear hb3));have q:=hT (t.out.trans (c.out.mono t.out.size));replace f:=(c.out.cell (p:=(zD (w.heap.size+1) 0)) b).trans f;replace b1:=(c.out.cell (p:=(zD (w.heap.size+1) 1)) b).trans b1;clear d i a1 a2;obtain ⟨d,i,a1,a2⟩:=o.out.next c.out;replace b:w.heap.size+1<w3.heap.size:=ti b c.out.size;clear c u;go_wp2_with fail;go_region_held3 (λw'=>(w'.cell? (zz w 0)= some (zI a)/\w'.cell? (zz w 1)= some (zI n)/\w'.cell? (zz w 2)= some (zI g))/\w'.cell? (zD (w.heap.size+1) 0)= some (zI p)/\w'.cell? (zD (w.heap.size+1) 1)= some (zI M)) (first|go_keep|(refine ⟨⟨?_,?_,?_⟩,?_,?_⟩<;>assumption)|(exact ⟨⟨(c.out.cell (p:=(zz w 0)) d).trans i,(c.out.cell (p:=(zz w 1)) d).trans a1,(c.out.cell (p:=(zz w 2)) d).trans a2⟩,(c.out.cell (p:=(zD (w.heap.size+1) 0)) b).trans f,(c.out.cell (p:=(zD (w.heap.size+1) 1)) b).trans b1⟩)) (first|(go_at_call 51;refine zg (G.out _) λw4 hb4=>?_;have c:Hid (zB w3 w4):=zR.drew.trans hb4;have u:=c;clear hb4)|(go_at_call 240;refine zg (E.out _) λw5 hb5=>?_;have c:Hid (zB w3 w5):=zH u hb5;clear hb5));go_wp2_with fail;go_ret2;exact ⟨rfl,q.out.trans (c.out.mono q.out.size)⟩
end
section
open Go.RowKit
def ko (a n g p m r e:Int):Prop:=∀w1:World,zF 204 #[zO a n g, zM p m] w1 λx w'=>x= zV (zI r) (zI e)/\zB w1 w'
theorem Gz (a n g p m i:Int) (r:Nat) (w:World) (h:Um.aj a n g) (z:ko a n g p m r 0) (hi:0<=i) (e:r<=1048576) (f:(Em.parts r 13:Nat)<=i): zF 243 #[zO a n g, zM p m,zI i] w λx w'=>x= zV (zI 0) (zI 2)/\zB w w':=by
 have R:=hT z;unfold ko at R;have G:=hT (λw1=>gC a n g w1 h);obtain ⟨v,u,t,s,E,D⟩:=Um.cT h;have P:=hT (λw1=>Geo.ph n g r w1 ((Em.cM n g).2 ⟨v,u,t,s⟩) (by omega));obtain ⟨k,A⟩:=eX1 ((Em.parts r 13:Nat):Int);rw [<-A]at P f;obtain ⟨L,b⟩:=eX1 (r:Int);rw [<-b]at P R;have hd:decide (i<0)= false:=by simp;omega
 have F:decide (k<=i):=by simpa using f
 obtain ⟨I,c⟩:=eX2 ((w.alloc (zK a n g 85)).alloc (zE p m 65));obtain ⟨B,y,H,b1,d⟩:=ij w a n g p m I c;have K:=hT B;have J:=hT y;obtain ⟨_,j,a1,a2⟩:=y;clear h z hi e f B d v u t s E D A b;go_enter func243,ntmps243;go_wp2_with fail;clear c;refine zg (R.out _) λw1 hb=>?_;have q:=zT K hb;clear j a1 a2 H b1;obtain ⟨C,j,a1,a2⟩:=J.out.next hb;clear hb;go_wp2_with fail;refine zg (G.out _) λw2 hb=>?_;have o:=zT q hb;clear hb j a1 a2;go_wp2_with fail;refine zg (P.out _) λw3 hb=>?_;have l:=zT o hb;clear hb;go_wp2_with fail;go_ret2;exact ⟨rfl,l.out⟩
theorem GA (a n g p m i:Int) (r:Nat) (w:World) (h:Um.aj a n g) (C:ko a n g p m r 0) (hi:0<=i) (j:r<=1048576) (l:i< (Em.parts r 13:Nat)) (hp:0<=p) (k:p<=1048576): zF 243 #[zO a n g, zM p m,zI i] w λx w'=>x= zV (zI (p+1+i)) (zI 0)/\zB w w':=by
 have R:=hT C;unfold ko at R;have G:=hT (λw1=>gC a n g w1 h);obtain ⟨A,z,y,v,J,I⟩:=Um.cT h;have P:=hT (λw1=>Geo.ph n g r w1 ((Em.cM n g).2 ⟨A,z,y,v⟩) (by omega));have hle:=Em.iw r 13;obtain ⟨q,D⟩:=eX1 ((Em.parts r 13:Nat):Int);rw [<-D]at P l;obtain ⟨N,d⟩:=eX1 (r:Int);rw [<-d]at P R;have hd:decide (i<0)= false:=by simp;omega
 have K:decide (q<=i)= false:=by simpa using l
 have Q:lg.wrap (p+1)= p+1:=rr _ (by omega);have O:lg.wrap (p+1+i)= p+1+i:=rr _ (by omega);obtain ⟨F,e⟩:=eX2 ((w.alloc (zK a n g 85)).alloc (zE p m 65));obtain ⟨E,B,c,b1,f⟩:=ij w a n g p m F e;have M:=hT E;have L:=hT B;have b:w.heap.size+1<F.heap.size:=by omega
 obtain ⟨_,o,a1,a2⟩:=B;clear h C hi j l E f A z y v J I D d hp k hle;go_enter func243,ntmps243;go_wp2_with fail;clear e;refine zg (R.out _) λw1 hb=>?_;have u:=zT M hb;clear o a1 a2;obtain ⟨H,o,a1,a2⟩:=L.out.next hb;replace c:=(hb.cell (p:=(zD (w.heap.size+1) 0)) b).trans c;replace b:w.heap.size+1<w1.heap.size:=ti b hb.size;clear hb b1;go_wp2_with fail;refine zg (G.out _) λw2 hb=>?_;have t:=zT u hb;replace c:=(hb.cell (p:=(zD (w.heap.size+1) 0)) b).trans c;replace b:w.heap.size+1<w2.heap.size:=ti b hb.size;clear hb o a1 a2;go_wp2_with fail;refine zg (P.out _) λw3 hb=>?_;have s:=zT t hb;replace c:=(hb.cell (p:=(zD (w.heap.size+1) 0)) b).trans c;clear hb;go_wp2_with fail;go_ret2;exact ⟨rfl,s.out⟩
end
section
open Go.RowKit
theorem jC {fn:Func} {p u:Tmp} (h:fn.results= #[.cell p 65, .tmp u]) (tmps:Array Value) (w:World) (g:Nat) (x y v:Value) (hp:tmps.getD p undef= zP g) (hu:tmps.getD u undef= v) (a:w.heap[g]?= some (hV #[x,y] 65 (0,0))): (results fn tmps).run prog w= .ok (.tuple #[.agg #[x,y],v]) w:=by
 have hi:(prog.info? 65).map (·.size)= some (#[x,y]:Array Value).size:=by show _= some 2;kernel_rfl
 rw [results_cell_tmp h,hp,hu];simp [asAddr,run_loadVar_row w g 65 65 #[x,y] (0,0) _ a underlying65 rfl hi,Ty]
theorem GC (w:World) (a n g p m:Int) (W0:World) (h:((w.alloc (zK a n g 85)).alloc (zE p m 65)).alloc (zE 0 0 65)= W0): zB w W0/\Ux W0 w.heap.size a n g/\W0.cell? (zD (w.heap.size+1) 0)= some (zI p)/\W0.cell? (zD (w.heap.size+1) 1)= some (zI m)/\ W0.heap[w.heap.size+2]?= some (hV #[zI 0,zI 0] 65 (0,0))/\W0.heap.size= w.heap.size+3:=by subst h;obtain ⟨e,i,k,b1,b⟩:=ij w a n g p m _ rfl;obtain ⟨f,d⟩:=eX2 ((w.alloc (zK a n g 85)).alloc (zE p m 65));rw [d]at e i k b1 b⊢;have j:=heap_alloc_new f (zE 0 0 65);have c:zB f (f.alloc (zE 0 0 65)):=zA;rw [b]at j;exact ⟨e.trans (c.mono e.size),i.next c,(c.cell (p:=(zD (w.heap.size+1) 0)) (by simp [b])).trans k,(c.cell (p:=(zD (w.heap.size+1) 1)) (by simp [b])).trans b1,j,by simp [b]⟩
theorem GD (a n g p m i:Int) (r:Nat) (w:World) (h:Um.aj a n g) (N:ko a n g p m r 0) (hi:0<=i) (t:r<=1048576) (A:i<r) (hp:0<=p) (z:p<=1048576): zF 215 #[zO a n g, zM p m,zI i] w λx w'=>x= zV (zM (p+1+ (Em.parts r 13:Nat) +i*g) g) (zI 0)/\zB w w':=by
 have R:=hT N;unfold ko at R;have G:=hT (λw1=>gC a n g w1 h);obtain ⟨K,J,I,H,W,V⟩:=Um.cT h;have P:=hT (λw1=>Geo.ph n g r w1 ((Em.cM n g).2 ⟨K,J,I,H⟩) (by omega));have hle:=Em.iw r 13;obtain ⟨c,Q⟩:=eX1 ((Em.parts r 13:Nat):Int);rw [<-Q]at P⊢;obtain ⟨q,O⟩:=eX2 (i*g);have y:0<=q:=by rw [<-O];exact Int.mul_nonneg hi (by omega)
 have v:q<=134217728:=by have:i*g<=1048576*128:=Int.mul_le_mul (by omega) (by omega) (by omega) (by omega);omega
 have HQ:=hT O;obtain ⟨U,k⟩:=eX1 (r:Int);rw [<-k]at P R A;have hd:decide (i<0)= false:=by simp;omega
 have X:decide (U<=i)= false:=by simpa using A
 have e1:lg.wrap (p+1)= p+1:=rr _ (by omega);have e2:lg.wrap (p+1+c)= p+1+c:=rr _ (by omega);have e3:lg.wrap q= q:=rr _ (by omega);have e4:lg.wrap (p+1+c+q)= p+1+c+q:=rr _ (by omega);obtain ⟨T,l⟩:=eX2 (((w.alloc (zK a n g 85)).alloc (zE p m 65)).alloc (zE 0 0 65));obtain ⟨S,M,B,b1,L,s⟩:=GC w a n g p m T l;have HB:=hT S;have HX:=hT M;have b:w.heap.size+2<T.heap.size:=by omega
 have HZ:=hT L;obtain ⟨_,C,a1,a2⟩:=M;clear h N hi t A S s L K J I H W V Q k hp z hle y v;go_enter func215,ntmps215;go_wp2_with fail;clear l;refine zg (R.out _) λw1 hb=>?_;have o:=zT HB hb;have Z:=hT ((hb.block (w.heap.size+2) b).trans HZ.out);have D:=hT (HX.out.next hb);clear C a1 a2;obtain ⟨f,C,a1,a2⟩:=D.out;replace B:=(hb.cell (p:=(zD (w.heap.size+1) 0)) (by show w.heap.size+1<_;omega)).trans B;replace b1:=(hb.cell (p:=(zD (w.heap.size+1) 1)) (by show w.heap.size+1<_;omega)).trans b1;replace b:w.heap.size+2<w1.heap.size:=ti b hb.size;have e:w.heap.size+1<w1.heap.size:=by omega
 have E:=hT b;clear hb b;go_wp2_with fail;go_region_held3 (λw'=>(w'.cell? (zz w 0)= some (zI a)/\w'.cell? (zz w 1)= some (zI n)/\w'.cell? (zz w 2)= some (zI g))/\w'.cell? (zD (w.heap.size+1) 0)= some (zI p)/\w'.cell? (zD (w.heap.size+1) 1)= some (zI m)) (first|go_keep|(refine ⟨⟨?_,?_,?_⟩,?_,?_⟩<;>assumption)|(exact ⟨⟨(d.out.cell (p:=(zz w 0)) f).trans C,(d.out.cell (p:=(zz w 1)) f).trans a1,(d.out.cell (p:=(zz w 2)) f).trans a2⟩,(d.out.cell (p:=(zD (w.heap.size+1) 0)) e).trans B,(d.out.cell (p:=(zD (w.heap.size+1) 1)) e).trans b1⟩)) (first|(go_at_call 51;refine zg (G.out _) λw2 hb2=>?_;have d:Hid (zB w1 w2):=zR.drew.trans hb2;have B1:=d;clear hb2)|(go_at_call 161;refine zg (P.out _) λw3 hb3=>?_;have d:Hid (zB w1 w3):=zH B1 hb3;clear hb3));have F:=hT (o.out.trans (d.out.mono o.out.size));have j:=(d.out.block (w.heap.size+2) E.out).trans Z.out;have Y:=hT j;obtain ⟨z0,z1,zf⟩:=bR j;clear j;go_wp2_with fail;refine bodyPost_ret (jC (p:=6) (u:=7) rfl _ _ (w.heap.size+2) _ _ _ rfl rfl (fX Y.out _ _)) rfl ⟨?_,?_⟩;· simp [HQ.out]
 ·exact fY F.out (by omega) _ _
end
section
namespace Og
open Go.RowKit
variable{w:World}
theorem dL {w1:World} (h:Below w.drew.heap.size w.drew w1):zB w w1:=((Below.refl _ w).drew).trans h
variable{o:Bo}{n g:Nat}{st:Dm.St}
theorem Ae (h:Gk w o n g st) (a k:Int) (j:a<=9223372036854775807):zF 169 #[zP o.q,zI a,zI k] w (zQ (.bool (hasB n a k)) w):=by
 obtain ⟨n1,i,g1,g2⟩:=h.small;obtain ⟨c0,c1,c2,c3,c4⟩:=h.reads;have b:=mu (n:=n) (a:=a) (k:=k);by_cases h1:0<=a;·
  by_cases f:0<=k;·
   have d:hasB n a k= decide (k<=(n:Int) - a):=by rw [Bool.eq_iff_iff,b];simp [h1,f]
   have e:=hT d;have hw:lg.wrap ((n:Int) - a)= (n:Int) - a:=rr _ (by omega);clear d b h;go_enter func169,ntmps169;go_wp2_with fail;all_goals (go_ret;exact ⟨by rw [e.out];simp_all,rfl⟩)
  ·have d:hasB n a k= false:=by rw [Uc];intro c;exact f (b.1 c).2.1
   have e:=hT d;clear d b h;go_enter func169,ntmps169;go_wp2_with fail;go_ret;exact ⟨by rw [e.out];rfl,rfl⟩
 ·have d:hasB n a k= false:=by rw [Uc];intro c;exact h1 (b.1 c).1
  have e:=hT d;clear d b h;go_enter func169,ntmps169;go_wp2_with fail;go_ret;exact ⟨by rw [e.out];rfl,rfl⟩
theorem Ld (h:Gk w o n g st):zF 183 #[zP o.q] w (zQ (zI ((64*g:Nat):Int)) w):=by
 obtain ⟨n1,a,g1,g2⟩:=h.small;obtain ⟨c0,c1,c2,c3,c4⟩:=h.reads;have hw:lg.wrap ((g:Int) *64)= ((64*g:Nat):Int):=by rw [rr _ (by omega)];omega
 clear h;go_enter func183,ntmps183;go_wp2_with fail;go_ret;exact ⟨rfl,rfl⟩
theorem Af (h:Gk w o n g st) (a k:Int) (u:a<=9223372036854775807) (v:st.P.length<=1099511627776): zF 128 #[zP o.q,zI a,zI k] w λe w'=>e= zV (.string (Om.B (rS n st a k))) (zI (rE n st a k))/\zB w w':=by obtain ⟨n1,s,g1,g2⟩:=h.small;have i:=hT (Ae h a k u);cases hb:hasB n a k with
 | false =>
 have c:rS n st a k= []:=by unfold rS;rw [hb,if_neg (by decide)]
 have b:rE n st a k= 2:=by unfold rE;rw [hb,if_neg (by decide)]
 rw [c,b];rw [hb]at i;clear h hb c b;go_enter func128,ntmps128;go_wp2_with fail;refine zh i.out ?_;go_wp2_with fail;go_ret2;exact ⟨rfl,Below.refl _ _⟩
 | true =>
 have c:rS n st a k= Dm.aA st (17+a) k:=by unfold rS;rw [hb,if_pos rfl]
 have b:rE n st a k= Dm.aY st (17+a) k:=by unfold rE;rw [hb,if_pos rfl]
 rw [c,b];rw [hb]at i;obtain ⟨x,t,hk⟩:=mu.1 hb;have hw:lg.wrap (17+a)= 17+a:=rr _ (by omega);obtain ⟨c0,c1,c2,c3,c4⟩:=h.reads;have f:Hid (∀W,zB w W->W.cell? (zD o.q 0)= some (zP o.d.p)/\W.cell? (zD o.q 1)= some (zI 17)):=hT λW hW=>by obtain ⟨c0,c1, -, -, -⟩:=(h.below hW).reads;exact ⟨c0,c1⟩
 have m:=hT (λw1 (hb:zB w w1)=>ae.kq (h.dk.below hb) (17+a) k (by omega) v);obtain ⟨X,j⟩:=eX1 (Dm.aA st (17+a) k);obtain ⟨E,l⟩:=eX1 (Dm.aY st (17+a) k);rw [<-j,<-l]at m⊢;clear h hb c b j l x t hk c2 c3 c4 n1 s g1 g2;go_enter func128,ntmps128;go_wp2_with fail;refine zh i.out ?_;go_upto_region 5 with fail;go_region_held3 (λw'=>w'.cell? (zD o.q 0)= some (zP o.d.p)/\w'.cell? (zD o.q 1)= some (zI 17)) (first|(refine ⟨?_,?_⟩<;>assumption)|go_keep) (first
  | (go_at_call 98;refine zg (m.out _ zR.drew) λw2 hb2=>?_;have r:=hT (dL hb2);obtain ⟨z,y⟩:=f.out _ r.out;clear hb2));go_wp2_with fail;go_ret2;exact ⟨rfl,r.out⟩
theorem Ag (st:Dm.St) (b:Dm.Ok st) (a:Int) (d:zL):(Dm.write st a d).1.S.length= st.S.length:=by rw [(Dm.lV b a d).2.1]
theorem Le (h:Gk w o n g st) (a:Int) (d:zL) (I:a<=9223372036854775807) (hd:d.length<=140737488355328) (J:st.P.length<=549755813888): zF 122 #[zP o.q,zI a, .string (Om.B d)] w λe w'=>e= nf (zI (wE n st a d))/\ai o n g (wS n st a d) w w':=by
 obtain ⟨n1,A,g1,g2⟩:=h.small;obtain ⟨L,r⟩:=eX1 d.length;obtain ⟨q,u⟩:=eX1 (L / 64);have t:(L:Int) / 64= (q:Int):=by omega
 have b:((d.length / 64:Nat):Int)= (q:Int):=by omega
 have G:wrap64 (q:Int)= (q:Int):=by unfold wrap64;omega
 have m:=hT (Ae h a (q:Int) I);obtain ⟨D,c⟩:=eX1 (Om.B d);have K:D.size= L:=by rw [c,r];exact Om.aG d
 by_cases hm:d.length % 64= 0;·
  have C:((L:Int) % 64 != 0)= false:=by simp;omega
  cases hb:hasB n a (q:Int) with
   | false =>
   have i:wE n st a d= 2:=by unfold wE;rw [if_pos hm,b,hb,if_neg (by decide)]
   have f:wS n st a d= st:=by unfold wS;rw [if_pos hm,b,hb,if_neg (by decide)]
   rw [i,f];rw [hb]at m;have j:=hT (ai.ax h zR);rw [<-c];clear h hb i f c r u b hm;go_enter func122,ntmps122;go_wp2_with fail;refine zh m.out ?_;go_wp2_with fail;go_ret;exact ⟨rfl,j.out⟩
   | true =>
   have i:wE n st a d= (Dm.write st (17+a) d).2:=by unfold wE;rw [if_pos hm,b,hb,if_pos rfl]
   have f:wS n st a d= (Dm.write st (17+a) d).1:=by unfold wS;rw [if_pos hm,b,hb,if_pos rfl]
   rw [i,f];rw [hb]at m;obtain ⟨N,F,hk⟩:=mu.1 hb;have hw:lg.wrap (17+a)= 17+a:=rr _ (by omega);obtain ⟨c0,c1,c2,c3,c4⟩:=h.reads;have z:Hid (∀w1,zB w w1->zF 92 #[zP o.d.p,zI (17+a), .string (Om.B d)] w1 λe w'=>e= nf (zI (Dm.write st (17+a) d).2)/\ai o n g (Dm.write st (17+a) d).1 w w'/\w'.cell? (zD o.q 0)= some (zP o.d.p)/\w'.cell? (zD o.q 1)= some (zI 17)):=hT λw1 hb1=>by refine (ae.fC (h.dk.below hb1) (17+a) d (by omega) hd J).mono ?_;rintro e w' ⟨H,Q,v,k⟩;obtain ⟨h1,M⟩:=(h.below hb1).iH v k (Ag st h.dk.ok _ _);obtain ⟨s,y, -, -, -⟩:=h1.reads;rw [k.p]at s;exact ⟨H,ai.below hb1 ⟨_,h1,M⟩,s,y⟩
   obtain ⟨E,x⟩:=eX1 ((Dm.write st (17+a) d).2);rw [<-x,<-c]at z;rw [<-x,<-c];clear h hb i f x N F hk c2 c3 c4 n1 A g1 g2 u b hm c r;go_enter func122,ntmps122;go_wp2_with fail;refine zh m.out ?_;go_upto_region 5 with fail;go_region_held3 (λw'=>w'.cell? (zD o.q 0)= some (zP o.d.p)/\w'.cell? (zD o.q 1)= some (zI 17)) (first|(refine ⟨?_,?_⟩<;>assumption)|go_keep) (first
    | (go_at_call 92;refine (z.out _ zR.drew).mono ?_;rintro e w2 ⟨rfl,l,s,y⟩;have O:=hT l;clear l));go_wp2_with fail;go_ret;exact ⟨rfl,O.out⟩
 ·have C:((L:Int) % 64 != 0):=by simp;omega
  have i:wE n st a d= 1:=by unfold wE;rw [if_neg hm]
  have f:wS n st a d= st:=by unfold wS;rw [if_neg hm]
  rw [i,f];have j:=hT (ai.ax h zR);rw [<-c];clear h i f c r u t b hm m;go_enter func122,ntmps122;go_wp2_with fail;go_ret;exact ⟨rfl,j.out⟩
theorem jx (a b:zL) (h:a.length+b.length<4611686018427387904):¬9223372036854775807< (Om.B a).size+ (Om.B b).size:=by rw [Om.aG,Om.aG];omega
theorem dz {W0 X w3:World} (hb:zB X w3) (h:zB W0 X):zB W0 w3:=h.trans (hb.mono h.size)
def at_ (g k:Nat):Nat:=k*g
def ln (n g k:Nat):Nat:=min g (n - k*g)
theorem qM {k:Nat} (a:1<=g) (h:k<Em.parts n g):at_ g k<n/\1<=ln n g k/\ln n g k<=g/\at_ g k+ln n g k<=n:=by have:=(Em.kL (n:=n) (s:=g) (k:=k) (by omega)).1 h;unfold at_ ln;omega
theorem Lm {k:Nat} (a:1<=g) (h:k<Em.parts n g):hasB n (at_ g k:Int) (ln n g k:Int)= true:=by obtain ⟨h1,d,c,b⟩:=qM a h;exact mu.2 ⟨by omega,by omega,by omega⟩
def cE (n g:Nat) (st:Dm.St) (k:Nat):Int:=Dm.aY st (17+ (at_ g k:Int)) (ln n g k:Int)
def cX (n g:Nat) (st:Dm.St) (k:Nat):zL:=Dm.aA st (17+ (at_ g k:Int)) (ln n g k:Int)
def cS (n g:Nat) (st:Dm.St) (k:Nat):zL:=if cE n g st k= 0 then cX n g st k ++ vw (64*g - (cX n g st k).length) 0 else []
theorem Ak (h:Gk w o n g st) (k:Nat) (hk:k<Em.parts n g) (w1:World): zF 73 #[zM n g,zI k] w1 λe w'=>e= zV (zM (at_ g k:Int) (ln n g k:Int)) (zI 0)/\zB w1 w':=Geo.Ll n g k w1 h.right hk
theorem Ln (h:Gk w o n g st) (c:Int) (a:c<0\/(Em.parts n g:Int)<=c) (w1:World): zF 73 #[zM n g,zI c] w1 λe w'=>e= zV (zM 0 0) (zI 2)/\zB w1 w':=by
 have e:Geo.refuse (n:Int) (g:Int) c 0 (Geo.many (n:Int) (g:Int) - 1)= 2:=by unfold Geo.refuse;rw [if_pos h.right,Geo.oE h.right,if_pos (by omega)]
 have:=Geo.Lj (n:Int) (g:Int) c w1 (by rw [e];decide);rw [e]at this;exact this
theorem Am (h:Gk w o n g st) (k:Nat) (hk:k<Em.parts n g) (N:st.P.length<=1099511627776): zF 138 #[zP o.q,zI k] w λe w'=>e= zV (.string (Om.B (cS n g st k))) (zI (cE n g st k))/\zB w w':=by
 obtain ⟨n1,S,g1,g2⟩:=h.small;obtain ⟨W,V,U,T⟩:=qM g1 hk;have K:=Lm g1 hk;have H:=hT (Ak h k hk);have J:Hid (∀w1,zB w w1->zF 128 #[zP o.q,zI (at_ g k:Int),zI (ln n g k:Int)] w1 λe w'=>e= zV (.string (Om.B (cX n g st k))) (zI (cE n g st k))/\zB w1 w'):=hT λw1 hb=>by have:=Af (h.below hb) (at_ g k:Int) (ln n g k:Int) (by omega) N;unfold rE rS at this;rw [K,if_pos rfl,if_pos rfl]at this;exact this
 have Q:Hid (∀w1,zB w w1->zF 183 #[zP o.q] w1 λe w'=>e= nf (zI ((64*g:Nat):Int))/\w1= w'):=hT λw1 hb=>Ld (h.below hb);obtain ⟨-, -, -,c3,c4⟩:=h.reads;have hlen:(cX n g st k).length<=64*g:=by
  unfold cX Dm.aA;split;· simp
  ·split;· rename_i Z;rw [Dm.fb]at Z;rw [Dm.po h.dk.ok _ _ (by omega)];omega
   ·simp
 have E1:Hid (cE n g st k≠0->cS n g st k= []):=hT λf=>by unfold cS;rw [if_neg f]
 have s:Hid (cE n g st k= 0->cS n g st k= cX n g st k ++ vw (64*g - (cX n g st k).length) 0):=hT λf=>by unfold cS;rw [if_pos f]
 obtain ⟨A,G⟩:=eX1 (at_ g k);obtain ⟨L,D⟩:=eX1 (ln n g k);obtain ⟨X,u⟩:=eX1 (cX n g st k);obtain ⟨E,l⟩:=eX1 (cE n g st k);obtain ⟨Y,d⟩:=eX1 (cS n g st k);rw [<-G,<-D]at H;rw [<-G,<-D,<-u,<-l]at J;rw [<-u]at hlen;rw [<-l,<-d]at E1;rw [<-l,<-u,<-d]at s;rw [<-l,<-d];obtain ⟨F,O⟩:=eX1 (64*g);rw [<-O]at Q hlen s;have ab:F<=8192:=by omega
 clear h hk N n1 S g1 g2 W V U T K G D u l d O;by_cases f:E= 0;·
  have d:=hT (s.out f);have e0:(E != 0)= false:=by simp [f]
  subst f;have i:=jx X (vw (F - X.length) 0) (by simp;omega);have hs:=Om.aG X;have I:=hT (λw1=>pG (F - X.length) w1 (by omega));obtain ⟨m,hm⟩:=eX1 X.length;rw [<-hm]at hs hlen I i d;have j:(F:Int) - (m:Int)= ((F - m:Nat):Int):=by omega
  have C:lg.wrap ((F - m:Nat):Int)= ((F - m:Nat):Int):=rr _ (by omega);have r:=hT (show∃R,R= F - m from ⟨_,rfl⟩);obtain ⟨R,M⟩:=r.out;rw [<-M]at j C I i d;clear E1 s r hm M hlen;go_enter func138,ntmps138;go_wp2_with fail;refine zg (H.out _) λw1 hb=>?_;obtain ⟨p,a⟩:=eX2 (w1.alloc (zE A L 65));have c:zB w1 p:=by rw [<-a];exact zA
  have b:p.heap[w1.heap.size]?= some (hV #[zI A,zI L] 65 (0,0)):=by rw [<-a];exact heap_alloc_new w1 _
  obtain ⟨z,y,x⟩:=bR b;have t:=hT (dz c hb);clear hb c b;go_wp2_with fail;clear a;refine zg (J.out _ t.out) λw3 hb=>?_;have v:=hT (dz hb t.out);clear hb z y x;go_wp2_with fail;refine zh (Q.out _ v.out) ?_;go_wp2_with fail;refine zg (I.out _) λw5 hb=>?_;have B5:=hT (dz hb v.out);clear hb;go_wp2_with fail;go_ret2;exact ⟨by rw [d.out,<-Om.fy];rfl,B5.out⟩
 ·have e0:(E != 0):=by simpa using f
  have d:=E1.out f;subst d;clear E1 s f;go_enter func138,ntmps138;go_wp2_with fail;refine zg (H.out _) λw1 hb=>?_;obtain ⟨p,a⟩:=eX2 (w1.alloc (zE A L 65));have c:zB w1 p:=by rw [<-a];exact zA
  have b:p.heap[w1.heap.size]?= some (hV #[zI A,zI L] 65 (0,0)):=by rw [<-a];exact heap_alloc_new w1 _
  obtain ⟨z,y,x⟩:=bR b;have t:=hT (dz c hb);clear hb c b;go_wp2_with fail;clear a;refine zg (J.out _ t.out) λw3 hb=>?_;have v:=hT (dz hb t.out);clear hb z y x;go_wp2_with fail;go_ret2;exact ⟨rfl,v.out⟩
theorem qN {X:zL} {B:Nat}:(Om.B X).extract 0 B= Om.B (X.take B):=by rw [Om.pj,Om.fx]
end Og
end
section
open Go.RowKit
theorem BE (a n g:Int) (w:World) (h:Um.aj a n g):zF 62 #[zO a n g] w (zJ (zM (17+n) (a - (17+n))) w):=by
 obtain ⟨h1,m,l,k,j,i⟩:=Um.cT h;have y:lg.wrap (17+n)= 17+n:=rr _ (by omega);have x:lg.wrap (a - 17)= a - 17:=rr _ (by omega);have v:lg.wrap (a - 17 - n)= a - 17 - n:=rr _ (by omega);have r:=hT (show a - (17+n)= a - 17 - n by omega);obtain ⟨A,d⟩:=eX2 ((w.alloc (zK a n g 23)).alloc (zE 0 0 65));have b:=jc w a n g 23;have c:=heap_alloc_new (w.alloc (zK a n g 23)) (zE 0 0 65);rw [show (w.alloc (zK a n g 23)).heap.size= w.heap.size+1 by simp]at c;have f:=b.next (zR.alloc (Nat.le_refl _) (zE 0 0 65));have e:zB w ((w.alloc (zK a n g 23)).alloc (zE 0 0 65)):=(zA).alloc (by simp) _;rw [d]at c f e;have q:=hT e;have o:=hT c;obtain ⟨u,t,s⟩:=bR c;obtain ⟨_,z,a1,a2⟩:=f;clear e c b h h1 m l k j i;go_enter func62,ntmps62;go_wp2_with fail;clear d;go_wp2_with fail;refine bodyPost_ret (results_cell_row (p:=2) (ty:=65) rfl _ _ (w.heap.size+1) 65 _ (0,0) _ rfl (fX o.out _ _) underlying65 rfl tu) rfl ⟨?_,?_⟩;· rw [r.out]
 ·exact fY q.out (by omega) _ _
end
section
namespace Og
open Go.RowKit
theorem Cf (w:World) (a n g:Int) (W0:World) (h:w.alloc (zK a n g 85)= W0): zB w W0/\∀W,zB W0 W->W.cell? (zz w 0)= some (zI a)/\W.cell? (zz w 1)= some (zI n)/\W.cell? (zz w 2)= some (zI g):=by subst h;have c:=heap_alloc_new w (zK a n g 85);refine ⟨zA,λW hW=>?_⟩;have b:=(hW.block w.heap.size (by simp)).trans c;exact ⟨zW b,zW b,zW b⟩
theorem Cg (w:World) (v0 v1 v2 v3 v4:Value) (W0:World) (h:w.alloc (hV #[v0,v1,v2,v3,v4] 205)= W0): zB w W0/\W0.heap[w.heap.size]?= some (hV #[v0,v1,v2,v3,v4] 205 (0,0))/\∀W,zB W0 W->W.cell? (zz w 0)= some v0/\W.cell? (zz w 3)= some v3/\W.cell? (zz w 4)= some v4:=by subst h;have b:=heap_alloc_new w (hV #[v0,v1,v2,v3,v4] 205);refine ⟨zA,b,λW hW=>?_⟩;have a:=(hW.block w.heap.size (by simp)).trans b;exact ⟨zW a,zW a,zW a⟩
def Ch (x:Int) (w:World) (e:Ending) (w':World):Prop:=e= zV (.pointer none) (zI x)/\zB w w'
structure QN (a n g x1 x2 x3 x4:Int):Prop where
 aF:∀w,zF 154 #[zO a n g] w (zJ (zM x1 x2) w)
 lI:∀w,zF 51 #[zO a n g] w (zJ (zM x3 x4) w)
theorem Ci {a n g:Int} (h:Um.aj a n g):QN a n g 17 n n g:=⟨λw=>Gv a n g w h,λw=>gC a n g w h⟩
variable{w:World}{d:ae.Ob}{st:Dm.St}
theorem Tf (h:ae.Dk w d st) {a n g s:Nat} (hu:Um.aj (a:Int) (n:Int) (g:Int)) (J:st.S.length= s) (hl:s<a): zF 101 #[zP d.p, zO a n g] w (Ch 2 w):=by
 have ST:=hT (λw1=>lr (a:Int) (n:Int) (g:Int) w1 hu);have N:=hT (λw1=>Geo.kP (n:Int) (g:Int) w1);obtain ⟨k1,k2,k3,k4,k5,Z⟩:=Um.cT hu;have o:Em.aM (n:Int) (g:Int):=(Em.cM _ _).2 ⟨by omega,by omega,by omega,by omega⟩;rw [o]at N;have e3:lg.wrap (17+ (n:Int) + ((a:Int) - (17+ (n:Int))))= (a:Int):=by rw [rr _ (by omega)];omega
 have DK:=hT h;have A:=Ci hu;obtain ⟨L,u⟩:=eX2 (w.alloc (zK a n g 85));obtain ⟨K,C⟩:=Cf w _ _ _ L u;have O:=hT K;have b:=hT C;have OR:=hT A.aF;have GE:=hT A.lI;obtain ⟨a0,a1,a2⟩:=C L zR;obtain ⟨G,hG⟩:=eX1 w.heap.size;have e5:decide (s<a):=by simp;omega
 have HL:=hT J;unfold Ch;clear K C A o hu h J hl k1 k2 k3 k4 k5 Z;go_enter func101,ntmps101;go_upto_region 1 with fail;clear u;go_region_held3 (λw'=>w'.cell? (zz w 0)= some (zI a)/\w'.cell? (zz w 1)= some (zI n)/\w'.cell? (zz w 2)= some (zI g)) (first|(refine ⟨?_,?_,?_⟩<;>assumption)|go_keep) (first
  | (go_at_call 154;refine zg (OR.out _) λw1 hb=>?_;have Q:=hT (dL hb);obtain ⟨W,V,t2⟩:=b.out _ Q.out;clear hb)
  | (go_at_call 51;refine zg (GE.out _) λw2 hb=>?_;have P:=hT (dz hb Q.out);obtain ⟨U,T,R⟩:=b.out _ P.out;clear hb));clear a0 a1 a2 W V t2 U T R;obtain ⟨v,i⟩:=eX2 (w2.alloc (hV #[zP d.p,zI 17,zI n,zI n,zI g] 205));obtain ⟨t,B,c⟩:=Cg w2 _ _ _ _ _ v i;have I:=hT (dz t P.out);obtain ⟨z,y,x⟩:=c v zR;have PK:=hT c;clear t B c;rw [i];go_wp2_with fail;clear i;refine zg (N.out _) λw4 hb=>?_;have B4:=hT (dz hb I.out);have H:Hid (zB v w4):=hb;obtain ⟨c0,c1,c2⟩:=b.out _ B4.out;clear hb z y x;go_wp2_with fail;refine zg (ST.out _) λw5 hb=>?_;have F:=hT (dz hb H.out);clear hb c0 c1 c2;obtain ⟨l,f⟩:=eX2 (w5.alloc (zE (17+ (n:Int)) ((a:Int) - (17+ (n:Int))) 65));have r:zB w5 l:=by rw [<-f];exact zA
 have q:l.heap[w5.heap.size]?= some (hV #[zI (17+ (n:Int)),zI ((a:Int) - (17+ (n:Int)))] 65 (0,0)):=by rw [<-f];exact heap_alloc_new w5 _
 obtain ⟨Y,s1,X⟩:=bR q;have k:=hT (dz r F.out);obtain ⟨z,y,x⟩:=PK.out _ k.out;have D:Hid (∀m,ae.Dk (l.drewN m) d st):=hT λm=>(DK.out.below (dz (dz k.out I.out) O.out)).same λ_ _=>rfl;have M:Hid (∀m,zF 41 #[zP d.p] (l.drewN m) λe w'=>e= nf (zI s)/\∃j,w'= l.drewN j):=hT λm=>(ae.nY (D.out m)).mono λe w' ⟨h1,h2⟩=>⟨by rw [<-HL.out];exact h1,m,h2.symm⟩;clear r q;go_wp2_with fail;go_quiet (first|(go_at_call 41;exact M.out _));generalize hW7:l.drewN nq= W7;have E:Hid (zB v W7):=hT (by rw [<-hW7];have h:=k.out;exact ⟨h.os,h.tape,h.output,h.size,h.block⟩);clear hW7 f Y s1 X z y x M;go_wp2_with fail;go_ret2;exact ⟨rfl,dz (dz E.out I.out) O.out⟩
def Cj (n g:Nat) (d:ae.Ob) (st:Dm.St) (w:World) (e:Ending) (w':World):Prop:=∃o,e= zV (zP o.q) (zI 0)/\Gk w' o n g st/\o.d= d/\w.heap.size<=o.q/\zB w w'
theorem QO (h:ae.Dk w d st) {a n g s:Nat} (hu:Um.aj (a:Int) (n:Int) (g:Int)) (N:st.S.length= s) (hl:a<=s): zF 101 #[zP d.p, zO a n g] w (Cj n g d st w):=by
 have ST:=hT (λw1=>lr (a:Int) (n:Int) (g:Int) w1 hu);have R:=hT (λw1=>Geo.kP (n:Int) (g:Int) w1);obtain ⟨k1,k2,k3,k4,k5,k6⟩:=Um.cT hu;have c:Em.aM (n:Int) (g:Int):=(Em.cM _ _).2 ⟨by omega,by omega,by omega,by omega⟩;rw [c]at R;have e3:lg.wrap (17+ (n:Int) + ((a:Int) - (17+ (n:Int))))= (a:Int):=by rw [rr _ (by omega)];omega
 have J:=hT h;have F:=Ci hu;obtain ⟨P,y⟩:=eX2 (w.alloc (zK a n g 85));obtain ⟨O,H⟩:=Cf w _ _ _ P y;have A:=hT O;have b:=hT H;have OR:=hT F.aF;have GE:=hT F.lI;obtain ⟨a0,a1,a2⟩:=H P zR;obtain ⟨G,hG⟩:=eX1 w.heap.size;have e5:decide (s<a)= false:=by simp;omega
 have HL:=hT N;have U:Hid (Em.aM (n:Int) (g:Int)= true/\17+n<=st.S.length):=hT ⟨c,by omega⟩;unfold Cj;clear O H F c hu h N hl k1 k2 k3 k4 k5 k6;go_enter func101,ntmps101;go_upto_region 1 with fail;clear y;go_region_held3 (λw'=>w'.cell? (zz w 0)= some (zI a)/\w'.cell? (zz w 1)= some (zI n)/\w'.cell? (zz w 2)= some (zI g)) (first|(refine ⟨?_,?_,?_⟩<;>assumption)|go_keep) (first
  | (go_at_call 154;refine zg (OR.out _) λw1 hb=>?_;have V:=hT (dL hb);obtain ⟨t0,Z,t2⟩:=b.out _ V.out;clear hb)
  | (go_at_call 51;refine zg (GE.out _) λw2 hb=>?_;have M:=hT (dz hb V.out);obtain ⟨Y,X,W⟩:=b.out _ M.out;clear hb));clear a0 a1 a2 t0 Z t2 Y X W;obtain ⟨z,k⟩:=eX2 (w2.alloc (hV #[zP d.p,zI 17,zI n,zI n,zI g] 205));obtain ⟨x,u,f⟩:=Cg w2 _ _ _ _ _ z k;have B:=hT (dz x M.out);obtain ⟨E,D,C⟩:=f z zR;have PK:=hT f;have T:=hT u;clear x u f;rw [k];go_wp2_with fail;clear k;refine zg (R.out _) λw4 hb=>?_;have B4:=hT (dz hb B.out);have L:Hid (zB z w4):=hb;obtain ⟨c0,c1,c2⟩:=b.out _ B4.out;clear hb E D C;go_wp2_with fail;refine zg (ST.out _) λw5 hb=>?_;have K:=hT (dz hb L.out);clear hb c0 c1 c2;obtain ⟨q,i⟩:=eX2 (w5.alloc (zE (17+ (n:Int)) ((a:Int) - (17+ (n:Int))) 65));have v:zB w5 q:=by rw [<-i];exact zA
 have t:q.heap[w5.heap.size]?= some (hV #[zI (17+ (n:Int)),zI ((a:Int) - (17+ (n:Int)))] 65 (0,0)):=by rw [<-i];exact heap_alloc_new w5 _
 obtain ⟨s0,s1,sf⟩:=bR t;have o:=hT (dz v K.out);obtain ⟨E,D,C⟩:=PK.out _ o.out;have I:Hid (∀m,ae.Dk (q.drewN m) d st):=hT λm=>(J.out.below (dz (dz o.out B.out) A.out)).same λ_ _=>rfl;have Q:Hid (∀m,zF 41 #[zP d.p] (q.drewN m) λe w'=>e= nf (zI s)/\∃j,w'= q.drewN j):=hT λm=>(ae.nY (I.out m)).mono λe w' ⟨h1,h2⟩=>⟨by rw [<-HL.out];exact h1,m,h2.symm⟩;clear v t;go_wp2_with fail;go_quiet (first|(go_at_call 41;exact Q.out _));generalize hW7:q.drewN nq= W7;have l:Hid (zB z W7):=hT (by rw [<-hW7];have h:=o.out;exact ⟨h.os,h.tape,h.output,h.size,h.block⟩);clear hW7 i s0 s1 sf E D C Q;go_wp2_with fail;go_ret2;have r:=Nat.le_trans A.out.size M.out.size;refine ⟨⟨w2.heap.size,d⟩,rfl,⟨(l.out.block w2.heap.size (ae.lt_of_heap T.out)).trans T.out,J.out.below (dz (dz l.out B.out) A.out),λhf=>absurd (J.out.lt _ hf) (Nat.not_lt.2 r),U.out.1,U.out.2⟩,rfl,r,dz (dz l.out B.out) A.out⟩
end Og
end
end Go.Proofs.YtchihokmgmchcaaGreat
