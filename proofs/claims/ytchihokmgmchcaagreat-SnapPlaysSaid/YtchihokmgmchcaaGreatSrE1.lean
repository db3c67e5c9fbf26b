/- E1, of the proof -/
import Derived.Test.YtchihokmgmchcaaGreatSrA1
import Derived.Test.YtchihokmgmchcaaGreatSq0K
set_option linter.unusedVariables false
set_option maxRecDepth 100000
set_option maxHeartbeats 4000000
namespace Go.Proofs.YtchihokmgmchcaaGreat
open Go.Proofs.Tryz
open List renaming all_eq_true->TX,getElem?_replicate->TR,length_drop->IV,length_take->E4,range->MR,replicate->vw,take_append_drop->T8
open Bool renaming and_eq_true->N6
open Nat renaming le_refl->nm,lt_of_lt_of_le->ti
open Go.Ending renaming returned->nf
open Go.Lib renaming hid->hT
open Go.RowKit renaming intOf->CS
open Go.Obj renaming cells->hV
open Go.Value renaming tuple->CE
open Go.IntKind renaming u64->wb
section
namespace Pm
def fV (x:Int):Bool:=decide (-1<=x) && decide (x<=2147483646)
theorem nG (x:Int):fV x= true↔ -1<=x/\x<=2147483646:=by simp [fV]
def dD (ls:zN):Bool:=decide (ls.length= 13) && (MR 13).all λi=>fV (ls.getD i 0)
theorem ie (ls:zN):dD ls= true↔ls.length= 13/\∀i,i<13->fV (ls.getD i 0)= true:=by simp only [dD,N6,decide_eq_true_eq,TX,List.mem_range]
theorem Fh (ls:zN) (h:ls.length≠13):dD ls= false:=by
 cases hc:dD ls;· rfl
 ·exact absurd ((ie ls).1 hc).1 h
theorem xj (ls:zN) (i:Nat) (hi:i<13) (h:fV (ls.getD i 0)= false):dD ls= false:=by
 cases hc:dD ls;· rfl
 ·have:=((ie ls).1 hc).2 i hi;rw [h]at this;cases this
def zs:zN:=vw 14 4
theorem Fi:zs.length= 14:=rfl
theorem sO (i:Nat) (h:i<14):zs.getD i 0= 4:=by
 have:∀i:Fin 14,zs.getD i.val 0= 4:=by decide
 exact this ⟨i,h⟩
theorem xl:Om.eB zs= true:=by decide
theorem iA (k:Nat) (h:k<=14):Om.off zs k= 4*k:=by
 have:∀k:Fin 15,Om.off zs k.val= 4*k.val:=by decide
 exact this ⟨k,by omega⟩
def ag (g:Nat) (ls:zN):List Nat:=g :: ls.map λx=>(x+1).toNat
theorem sP (g:Nat) (ls:zN):(ag g ls).length= ls.length+1:=by simp [ag]
theorem sQ (g:Nat) (ls:zN) (i:Nat) (h:i<ls.length):(ag g ls).getD (i+1) 0= (ls.getD i 0+1).toNat:=by simp [ag,h]
theorem pN (g:Nat) (ls:zN) (i:Nat) (h:i<ls.length) (a:fV (ls.getD i 0)):(((ag g ls).getD (i+1) 0:Nat):Int)= ls.getD i 0+1:=by rw [sQ g ls i h];have:=(nG _).1 a;omega
theorem pO (g:Nat) (ls:zN) (b:g<4294967296) (h:dD ls) (i:Nat) (hi:i<14):(ag g ls).getD i 0<4294967296:=by obtain ⟨c,a⟩:=(ie ls).1 h;cases i with
 | zero=>exact b
 | succ i => have h1:=pN g ls i (by omega) (a i (by omega));have d:=(nG _).1 (a i (by omega));omega
theorem fit (g:Nat) (ls:zN) (a:g<4294967296) (h:dD ls):Om.gK zs (ag g ls) 14= true:=by rw [Om.kQ];intro i hi;rw [sO i hi];exact pO g ls a h i hi
def body (g:Nat) (ls:zN):zL:=Om.ct zs (ag g ls) 14
theorem nH (g:Nat) (ls:zN):(body g ls).length= 56:=by unfold body;rw [Om.kb zs _ 14 (by rw [Fi];exact nm _),iA 14 (nm _)]
theorem jy (g:Nat) (ls:zN) (c:g<4294967296) (h:dD ls):gO zs (ag g ls)= body g ls/\gP zs (ag g ls)= 0:=by
 have b:=((ie ls).1 h).1;have a:(ag g ls).length= 14:=by rw [sP,b]
 have:=nC zs (ag g ls) (by rw [a];rfl) xl (by rw [a];exact fit g ls c h);rw [a]at this;exact this
def ah (g:Nat) (ls:zN):zL:=ff (body g ls) 60
def encS (g:Nat) (ls:zN):zL:=if dD ls= true then ah g ls else []
def dC (ls:zN):Int:=if dD ls= true then 0 else 1
theorem eI (g:Nat) (ls:zN) (h:dD ls):encS g ls= ah g ls/\dC ls= 0:=by unfold encS dC;rw [if_pos h,if_pos h];exact ⟨rfl,rfl⟩
theorem iB (g:Nat) (ls:zN) (h:dD ls= false):encS g ls= []/\dC ls= 1:=by unfold encS dC;rw [if_neg (by rw [h];decide),if_neg (by rw [h];decide)];exact ⟨rfl,rfl⟩
theorem nE (g:Nat) (ls:zN):(dZ (body g ls) 60).length= 60:=sJ _ _ (by rw [nH];omega)
theorem bD (g:Nat) (ls:zN):(ah g ls).length= 64:=by unfold ah ff;rw [List.length_append,nE,Cm.pF]
def pat (b:zL) (i:Nat):Nat:=Om.at_ b zs (i+1)
def ki (b:zL):Nat:=Om.at_ b zs 0
theorem xm (b:zL) (i:Nat) (h:i<14):Om.at_ b zs i<4294967296:=by unfold Om.at_;rw [sO i h];have h1:=Om.nr ((b.drop (Om.off zs i)).take (4:Int).toNat);have a:256 ^ ((b.drop (Om.off zs i)).take (4:Int).toNat).length<=256 ^ 4:=Nat.pow_le_pow_right (by omega) (by rw [E4];exact Nat.min_le_left _ _);omega
theorem Fj (b:zL) (i:Nat) (h:i<13):pat b i<4294967296:=xm b (i+1) (by omega)
theorem Fk (b:zL):ki b<4294967296:=xm b 0 (by omega)
def val (b:zL) (i:Nat):Int:=(pat b i:Int) - 1
def bU (b:zL):zN:=(MR 13).map (val b)
theorem pP (b:zL):(bU b).length= 13:=by simp [bU]
theorem nI (b:zL) (i:Nat) (h:i<13):(bU b).getD i 0= val b i:=by simp [bU,h]
def aU (b:zL):Bool:=dD (bU b) && dB (b.drop 56)
def av (s:zL):Int:=if s.length= 64 then if Cm.aN s= true then if aU (s.take 60)= true then 0 else 32 else 31 else 21
def aH (s:zL):Nat:=if av s= 0 then ki (s.take 60) else 0
def da (s:zL):zN:=if av s= 0 then bU (s.take 60) else []
theorem Fl (s:zL) (h:s.length≠64):av s= 21/\aH s= 0/\da s= []:=by
 have e:av s= 21:=by unfold av;rw [if_neg h]
 unfold aH da;rw [e];exact ⟨rfl,rfl,rfl⟩
theorem Fm (s:zL) (h:s.length= 64) (a:Cm.aN s= false):av s= 31/\aH s= 0/\da s= []:=by
 have e:av s= 31:=by unfold av;rw [if_pos h,if_neg (by rw [a];decide)]
 unfold aH da;rw [e];exact ⟨rfl,rfl,rfl⟩
theorem kX (s:zL) (h:s.length= 64) (b:Cm.aN s) (a:aU (s.take 60)= false):av s= 32/\aH s= 0/\da s= []:=by
 have e:av s= 32:=by unfold av;rw [if_pos h,if_pos b,if_neg (by rw [a];decide)]
 unfold aH da;rw [e];exact ⟨rfl,rfl,rfl⟩
theorem gQ (s:zL) (h:s.length= 64) (b:Cm.aN s) (a:aU (s.take 60)):av s= 0/\aH s= ki (s.take 60)/\da s= bU (s.take 60):=by
 have e:av s= 0:=by unfold av;rw [if_pos h,if_pos b,if_pos a]
 unfold aH da;rw [e];exact ⟨rfl,rfl,rfl⟩
theorem sR (s:zL) (h:av s= 0):s.length= 64/\Cm.aN s= true/\aU (s.take 60)= true:=by
 unfold av at h;by_cases h1:s.length= 64;·
  rw [if_pos h1]at h;by_cases a:Cm.aN s= true;·
   rw [if_pos a]at h;by_cases b:aU (s.take 60)= true;· exact ⟨h1,a,b⟩
   ·rw [if_neg b]at h;cases h
  ·rw [if_neg a]at h;cases h
 ·rw [if_neg h1]at h;cases h
theorem nF (g:Nat) (ls:zN):(ah g ls).take 60= body g ls ++ [0,0,0,0]:=by unfold ah ff;have:=List.take_left (l₁:=dZ (body g ls) 60) (l₂:=Cm.four (dZ (body g ls) 60));rw [nE]at this;rw [this];unfold dZ;rw [nH];rfl
theorem Fo (a b:zN) (n:Nat) (d:a.length= n) (c:b.length= n) (h:∀i,i<n->a.getD i 0= b.getD i 0):a= b:=by
 apply List.ext_getElem;· rw [d,c]
 ·intro i h1 e;have:=h i (by omega);simpa [h1,e] using this
theorem back (g:Nat) (ls:zN) (f:g<4294967296) (h:dD ls):av (ah g ls)= 0/\aH (ah g ls)= g/\da (ah g ls)= ls:=by
 obtain ⟨e,d⟩:=(ie ls).1 h;have a:Cm.aN (ah g ls):=Cm.wT _;have b:∀i,i<14->Om.at_ ((ah g ls).take 60) zs i= (ag g ls).getD i 0:=λi hi=>by rw [nF];exact Om.vU zs (ag g ls) 14 _ (nm _) (fit g ls f h) i hi
 have c:=Fo _ _ 13 (pP _) e λi hi=>by rw [nI _ _ hi];unfold val pat;rw [b (i+1) (by omega),pN g ls i (by omega) (d i hi)];omega
 have j:aU ((ah g ls).take 60):=by unfold aU;rw [c,h,nF,<-nH g ls,List.drop_left];rfl
 obtain ⟨m,l,k⟩:=gQ _ (bD g ls) a j;refine ⟨m,?_,?_⟩;· rw [l];exact b 0 (by omega)
 ·rw [k,c]
theorem sM (s:zL) (h:s.length= 64) (a:Cm.aN s):s= s.take 60 ++ Cm.four (s.take 60):=by unfold Cm.aN at a;rw [h]at a;have e:=beq_iff_eq.1 a;rw [<-e,T8]
theorem Fp (l:zL) (h:dB l):l= vw l.length 0:=by apply List.eq_replicate_iff.2 ⟨rfl,λb hb=>?_⟩;simpa using TX.1 h b hb
theorem again (s:zL) (h:av s= 0):dD (da s)= true/\ah (aH s) (da s)= s:=by
 obtain ⟨k,m,d⟩:=sR s h;obtain ⟨_,p,o⟩:=gQ s k m d;unfold aU at d;rw [N6]at d;obtain ⟨c,f⟩:=d;rw [p,o];refine ⟨c,?_⟩;have g:(s.take 60).length= 60:=by rw [E4];omega
 have a:body (ki (s.take 60)) (bU (s.take 60))= (s.take 60).take 56:=by unfold body;have l:=Om.vV (s.take 60) zs (ag (ki (s.take 60)) (bU (s.take 60))) 14 (nm _) (by rw [iA 14 (nm _)];omega) (λi hi=>by cases i with
  | zero=>rfl
  | succ i => have h1:=((ie _).1 c).2 i (by omega);have n:=pN (ki (s.take 60)) (bU (s.take 60)) i (by rw [pP];omega) h1;rw [nI _ _ (by omega)]at n;unfold val pat at n;omega);rw [iA 14 (nm _)]at l;exact l
 have j:=Fp _ f;have e:((s.take 60).drop 56).length= 4:=by rw [IV,g]
 rw [e]at j;have b:dZ (body (ki (s.take 60)) (bU (s.take 60))) 60= s.take 60:=by unfold dZ;rw [nH,a];show _ ++ vw 4 0= _;rw [<-j,T8]
 unfold ah ff;rw [b];exact (sM s k m).symm
end Pm
end
section
open Go.RowKit
theorem xO (x:Int) (w:World):zF 278 #[zI x] w (zQ (.bool (Pm.fV x)) w):=by
 unfold Pm.fV;by_cases h1: -1<=x;·
  have d1:decide (-1<=x):=by simpa using h1
  rw [d1,Bool.true_and];clear h1;obtain ⟨b,a⟩:=eX2 (decide (x<=2147483646));rw [a];go_enter func278,ntmps278;go_wp2;go_ret;exact ⟨rfl,rfl⟩
 ·have d1:decide (-1<=x)= false:=by simpa using h1
  rw [d1,Bool.false_and];clear h1;go_enter func278,ntmps278;go_wp2;go_ret;exact ⟨rfl,rfl⟩
theorem jD:(prog.info? 3).map (λi=>(i.zero,i.size,i.bytes))= some (some (zI 0),1,8):=by kernel_rfl
def iJ (k:Nat):List Value:=vw k (zI 4) ++ vw (14 - k) (zI 0)
theorem GI (k:Nat) (h:k<14):(iJ k)[k]?= some (zI 0):=by unfold iJ;rw [List.getElem?_append_right (by simp),TR,if_pos (by simp;omega)]
theorem GJ (k:Nat) (h:k<14):(iJ k).set k (zI 4)= iJ (k+1):=by
 have:∀k:Fin 14,(iJ k.val).set k.val (zI 4)= iJ (k.val+1):=by
  intro k;unfold iJ;obtain ⟨m,hm⟩:∃m,14 - k.val= m+1:=⟨14 - k.val - 1,by omega⟩;have a:14 - (k.val+1)= m:=by omega
  rw [hm,a,List.set_append_right _ _ (by simp),List.replicate_succ,List.length_replicate,Nat.sub_self,List.set_cons_zero,List.replicate_succ',List.append_assoc];rfl
 exact this ⟨k,h⟩
theorem xP (w:World):zF 274 #[] w λe w'=>e= nf (zS w.heap.size 14 14)/\Row w' w'.heap.size (some ⟨w.heap.size,0,none⟩) 14 (bz Pm.zs)/\zB w w':=by
 obtain ⟨t,hi,m,l,k⟩:=info_parts jD;go_enter func274,ntmps274;go_wp2_with (refine wpList_make_full _ rfl _ _ 59 rfl w.heap.size 3 t (zI 0) 1 underlying59 hi m l .i64 .i64 _ _ 14 rfl rfl rfl rfl ?c1 ?c2 ?c3 ?_);case c1=>rw [k];omega
 case c2=>unfold maxLen;omega
 case c3=>exact nm _
 intro w1 a d;have c:w1.ownsRow w.heap.size 3 1 (zS w.heap.size 14 14) 14 (iJ 0):=by rw [toList_madeCells_one]at a;exact a
 have f:=zR.grown d (nm _) (λj s=>by cases s);have o:=hT c;have q:=hT f;clear a d c f;go_wp2;go_loopw [6] (λi wr=>∃j:Nat,j<=14/\i= zI j/\wr.ownsRow w.heap.size 3 1 (zS w.heap.size 14 14) 14 (iJ j)/\zB w wr) (λi _=>14 - (CS i).toNat);case atStart=>exact ⟨0,Nat.zero_le _,rfl,o.out,q.out⟩
 case round=>
  obtain ⟨j,s,rfl,a,b⟩:=hrel;by_cases h:j<14;·
   have n:wr.cell? (zz w j)= some (zI 0):=by rw [a.cellAt j (by omega),GI j h]
   have u:=a.frozenAt j;have g:=a.stored j (zI 4);rw [GJ j h]at g;have v:=hT g;have r:=hT b;clear g a b;go_wp2;go_roundw;case rel=>exact ⟨j+1,by omega,by go_num,v.out.1,r.out.setCell (p:=(zz w j)) (nm _) _⟩
   case measure=>simp [CS];omega
  ·obtain rfl:j= 14:=by omega
   have x:=hT a;have r:=hT b;clear a b;go_wp2;go_ret;refine ⟨rfl,Row.own x.out (λi hi=>?_),r.out⟩;have:∀i:Fin 14,(iJ 14)[i.val]?= some (bz Pm.zs i.val):=by intro i;unfold bz iJ;rw [Pm.sO i.val i.isLt,List.getElem?_append_left (by simp),TR,if_pos i.isLt]
   exact this ⟨i,hi⟩
def arr (b:zL) (k:Nat):Array Value:=((MR 13).map λi=>Value.int .i64 (if i<k then Pm.val b i else 0)).toArray
theorem qb (b:zL) (k:Nat):(arr b k).size= 13:=by simp [arr]
theorem GK (b:zL) (k:Nat) (h:k<13):(arr b k)[k]?= some (zI 0):=by simp [arr,h]
theorem GL (b:zL) (k i:Nat) (h:i<k) (hk:k<=13):(arr b k)[i]?= some (zI (Pm.val b i)):=by simp [arr,show i<13 by omega,h]
theorem GP (b:zL) (k:Nat) (h:k<13):(arr b k).setIfInBounds k (zI (Pm.val b k))= arr b (k+1):=by
 apply Array.ext;· simp [arr]
 ·intro i h1 a;rw [Array.getElem_setIfInBounds];by_cases e:k= i;· subst e;simp [arr]
  ·simp only [e,if_false,arr,List.getElem_toArray,List.getElem_map,List.getElem_range];have:(i<k)↔(i<k+1):=by omega
   simp only [this]
  ·simpa [arr] using a
theorem tz (b:zL) (k:Nat):(arr b k).all (·.oneCell')= true:=by simp [arr,Value.oneCell']
theorem qc (b:zL):arr b 0= #[zI 0,zI 0,zI 0,zI 0,zI 0,zI 0,zI 0,zI 0,zI 0,zI 0,zI 0,zI 0,zI 0]:=by unfold arr;rfl
theorem xQ {fn:Func} {p u:Tmp} (h:fn.results= #[.cell p 306, .tmp u]) (tmps:Array Value) (w:World) (g:Nat) (cs:Array Value) (v:Value) (hp:tmps.getD p undef= zP g) (hu:tmps.getD u undef= v) (b:w.heap[g]?= some (hV cs 306 (0,0))) (a:cs.size= 13): (results fn tmps).run prog w= .ok (CE #[.agg cs,v]) w:=by
 have hi:(prog.info? 306).map (·.size)= some cs.size:=by rw [a];kernel_rfl
 rw [results_cell_tmp h,hp,hu];simp [asAddr,run_loadVar_row w g 306 306 cs (0,0) _ b underlying306 rfl hi,Result.andThen]
def ep (b:zL):Array Value:=if Pm.dD (Pm.bU b)= true then arr b 13 else arr b 0
theorem GQ (b:zL) (h:∀i,i<13->Pm.fV (Pm.val b i)):Pm.dD (Pm.bU b)= true:= (Pm.ie _).2 ⟨Pm.pP b,λi hi=>by rw [Pm.nI b i hi];exact h i hi⟩
theorem GR (b:zL) (k:Nat) (hk:k<13) (h:Pm.fV (Pm.val b k)= false):Pm.dD (Pm.bU b)= false:= Pm.xj _ k hk (by rw [Pm.nI b k hk];exact h)
def tA (b:zL) (i:Nat):Value:= .int wb ((Pm.pat b i:Nat):Int)
theorem GU (b:zL) (B:Nat) (a:Option Addr) (c:Nat) (w:World) (V:B<=w.heap.size) (P:Row w B a 13 (tA b)): zF 275 #[.slice a 13 c] w λe w'=>e= zV (.agg (ep b)) (.bool (Pm.dD (Pm.bU b)))/\zB w w':=by
 have h:(prog.info? 306).map (·.size)= some 13:=by kernel_rfl
 obtain ⟨R,Q,rfl,K,D⟩:=P (by omega);have N:=hT D;clear D P;go_enter func275,ntmps275;go_wp2;go_loopw [5] (λi wr=>∃k:Nat,k<=13/\i= zI k/\wr.heap[w.heap.size]?= some (hV (arr b k) 306 (0,0))/\zB w wr/\Hid (∀i,i<k->Pm.fV (Pm.val b i)= true)) (λi _=>13 - (CS i).toNat);case atStart=>exact ⟨0,by omega,rfl,by rw [qc];exact heap_alloc_new _ _,zA,hT (λi hi=>absurd hi (by omega))⟩
 case round=>
  obtain ⟨k,hk,rfl,d,g,r⟩:=hrel;by_cases l:k<13;·
   have I:=Pm.Fj b k l;have J:wr.cell? ⟨R,Q+k,none⟩= some (.int wb ((Pm.pat b k:Nat):Int)):=by rw [g.cell (p:=⟨R,Q+k,none⟩) (ti K V),N.out k l,tA]
   have s:wr.cell? (zz w k)= some (zI 0):=by rw [cell_of_row _ _ _ _ _ _ d,GK b k l]
   have U:=frozen_of_row wr w.heap.size k _ _ d;have f:=heap_setCell_same wr w.heap.size k _ _ (zI (Pm.val b k)) d;rw [GP b k l]at f;have m:=g.setCell (p:=(zz w k)) (nm _) (zI (Pm.val b k));have j:=World.cell?_setCell_same wr ⟨w.heap.size,k,none⟩ (zI (Pm.val b k)) s;have n:Pm.val b k= (Pm.pat b k:Int) - 1:=rfl;obtain ⟨z,G⟩:=eX1 (Pm.fV (Pm.val b k));have C:=hT (λw1=>xO (Pm.val b k) w1);rw [<-G]at C;have S:=hT G;rw [n]at f m j C;obtain ⟨x,O⟩:=eX1 (Pm.pat b k);rw [<-O]at I J f m j C;have M:=hT f;have E:=hT m;clear f m G O n d g;cases z with
    | true =>
    go_wp2_with fail;refine zh (C.out _) ?_;go_wp2;go_roundw;case rel=>exact ⟨k+1,by omega,by go_num,M.out,E.out,hT (λi hi=>by
     by_cases e:i= k;· subst e;exact S.out.symm
     ·exact r.out i (by omega))⟩
    case measure=>simp [CS];omega
    | false => have q:=GR b k l S.out.symm;have F:=hT q;clear q;go_wp2_with fail;refine zh (C.out _) ?_;have H:=qb b 0;rw [qc]at H;have y:=tz b 0;rw [qc]at y;go_wp2_with (first|(refine wpList_store_row rfl 306 _ _ rfl w.heap.size _ rfl rfl 306 _ M.out h (by rw [qb];rfl) y ?_));refine bodyPost_ret (xQ (p:=2) (u:=3) rfl _ _ w.heap.size _ _ rfl rfl (setRow_heap _ _ _ _ _ _ M.out) rfl) rfl ⟨?_,nB E.out (nm _) _⟩;unfold ep;rw [F.out,if_neg (by decide),qc];rfl
  ·obtain rfl:k= 13:=by omega
   have A:=GQ b r.out;have L:=hT A;have T:=hT d;have X:=hT g;have o:=setRow_heap wr w.heap.size _ (arr b 13) _ _ d;have W:=hT o;have v:=qb b 13;have t:=hT v;clear d g A o v;go_wp2_with (first|(refine wpList_load_row rfl 306 _ rfl w.heap.size rfl 306 (arr b 13) (0,0) _ T.out underlying306 rfl (by rw [t.out];exact h) ?_)|(refine wpList_store_row rfl 306 _ _ rfl w.heap.size (arr b 13) rfl rfl 306 (arr b 13) T.out (by rw [t.out];exact h) rfl (tz b 13) ?_));refine bodyPost_ret (xQ (p:=2) (u:=3) rfl _ _ w.heap.size _ _ rfl rfl W.out t.out) rfl ⟨?_,nB X.out (nm _) _⟩;unfold ep;rw [L.out,if_pos rfl];rfl
end
section
open Go.RowKit
def mB (g:Nat) (ls:zN) (k:Nat):List Value:=(MR k).map λi=>gN (Pm.ag g ls) i
theorem GV (g:Nat) (ls:zN) (k:Nat):mB g ls (k+1)= mB g ls k ++ [gN (Pm.ag g ls) k]:=by simp [mB,List.range_succ]
theorem GW (ls:zN) (hl:ls.length= 13) (h:∀i,i<13->Pm.fV (ls.getD i 0)):Pm.dD ls= true:=(Pm.ie ls).2 ⟨hl,h⟩
theorem GX (l:zL) (w:World) (h:l.length<=60): zF 150 #[.string (Om.B l),zI 64] w λe w'=>e= zV (.string (Om.B (ff l 60))) (zI 0)/\zB w w':=pH l 60 w (by omega) h
theorem GY {w:World} {base:Nat} {t:TypeId} {v:Value} {n:Nat} {xs:List Value} (h:w.ownsRow base t 1 v (n+1) xs):∃g c,v= .slice (some ⟨g,0,none⟩) (n+1) c:=by
 rcases h.2 with ⟨_,b⟩|⟨g,c,cur,a,_⟩;· omega
 ·exact ⟨g,c,a⟩
theorem GZ (g:Nat) (ls:zN) (B:Nat) (a:Option Addr) (n c:Nat) (w:World) (hg:g<4294967296) (hl:ls.length= n) (hn:n<=9223372036854775807) (hB:B<=w.heap.size) (hr:Row w B a n (bz ls)): zF 251 #[zU g, .slice a n c] w λe w'=>e= zV (.string (Om.B (Pm.encS g ls))) (zI (Pm.dC ls))/\zB w w':=by
 obtain ⟨i0,hi,ba,aw,af⟩:=info_parts wU;by_cases Z:n= 13;·
  subst Z;obtain ⟨ab,ao,rfl,bb,Y⟩:=hr (by omega);have bx:=hT Y;have HL:=hT hl;clear Y hr hl hn;go_enter func251,ntmps251;go_wp2;have m:(w.alloc (hV #[.int wb g] 197)).ownsRow w.heap.size 197 1 (zS w.heap.size 1 1) 1 (mB g ls 1):=World.ownsRow_lit w #[.int wb g] 1 (nm _) (by unfold maxLen;omega) rfl;have bl:=hT m;clear m;go_loopw [6,19] (λv i wr=>∃k:Nat,k<=13/\i= zI k/\wr.ownsRow w.heap.size 197 1 v (k+1) (mB g ls (k+1))/\zB w wr/\Hid (∀i,i<k->Pm.fV (ls.getD i 0)= true)) (λ_ i _=>13 - (CS i).toNat);case atStart=>exact ⟨0,Nat.zero_le _,rfl,bl.out,zA,hT (λi hi=>absurd hi (by omega))⟩
  case round=>
   obtain ⟨k,hk,rfl,b,d,s⟩:=hrel;have HB:=hT d;have N:=d.size;by_cases I:k<13;·
    have U:wr.cell? ⟨ab,ao+k,none⟩= some (zI (ls.getD k 0)):=by rw [d.cell (p:=⟨ab,ao+k,none⟩) (ti bb hB),bx.out k I,bz]
    obtain ⟨z,G⟩:=eX1 (Pm.fV (ls.getD k 0));have C:=hT (λw1=>xO (ls.getD k 0) w1);rw [<-G]at C;cases z with
     | true =>
     have E:=(Pm.nG _).1 G.symm;have j:=Pm.pN g ls k (by rw [HL.out];exact I) G.symm;have H:gN (Pm.ag g ls) (k+1)= .int wb (((Pm.ag g ls).getD (k+1) 0:Nat):Int):=rfl;obtain ⟨x,M⟩:=eX1 (ls.getD k 0);obtain ⟨y,hy⟩:=eX1 ((Pm.ag g ls).getD (k+1) 0);rw [<-M]at U C E j;rw [<-hy]at j H;obtain ⟨bS,bP⟩:=E;have bG:=j.symm;have HZ:=hT G;have bo:=hT H;clear G H M hy j d;go_wp2_with fail;refine zh (C.out _) ?_;go_wp2_with (first|(at_builtin;refine wpList_append_own _ rfl _ _ 240 rfl w.heap.size 197 i0 (.int wb 0) 1 8 underlying240 hi ba aw af rfl (by decide) _ _ _ rfl (b.alloc _) ⟨wr.heap.size,0,none⟩ 1 1 [.int wb y] rfl rfl ?c1 ?c2 ?c3 ?c4 ?c5 ?_));case c1=> intro q u L;match q,L with
      | 0,L=>simp at L;subst L;simp [Addr.add]
     case c2=>intro u hu;simp at hu;subst hu;rfl
     case c3=>unfold maxLen;omega
     case c4=>omega
     case c5=>simp;omega
     intro v' w1 h o _;have r:=(HB.out.alloc N _).grown o (by simp;omega) (λq L=>(b.lt q L).1);rw [<-bo.out,<-GV]at h;have K:=hT r;have bg:=hT h;clear o b r h;go_wp2;go_roundw;case rel=>exact ⟨k+1,by omega,by go_num,bg.out,K.out,hT (λi hi=>by
      by_cases e:i= k;· subst e;exact HZ.out.symm
      ·exact s.out i (by omega))⟩
     case measure=>simp [CS];omega
     | false => have f:=Pm.iB g ls (Pm.xj ls k I G.symm);obtain ⟨x,M⟩:=eX1 (ls.getD k 0);rw [<-M]at U C;have F:=hT f;clear f G M b d;go_wp2_with fail;refine zh (C.out _) ?_;go_wp2;go_ret2;exact ⟨by rw [F.out.1,F.out.2];rfl,HB.out⟩
   ·obtain rfl:k= 13:=by omega
    have t:=GW ls HL.out s.out;obtain ⟨R,Q⟩:=Pm.jy g ls hg t;obtain ⟨T,S⟩:=Pm.eI g ls t;obtain ⟨g1,c1,rfl⟩:=GY b;have D:Row wr wr.heap.size (some ⟨g1,0,none⟩) 14 (gN (Pm.ag g ls)):=Row.own b (λi hi=>by simp [mB,show i<13+1 from hi]);have hu:∀i,(Pm.ag g ls).getD i 0<18446744073709551616:=λi=>by
     by_cases hi:i<14;· have:=Pm.pO g ls hg t i hi;omega
     ·rw [List.getD_eq_getElem?_getD,List.getElem?_eq_none (by rw [Pm.sP,HL.out];omega)];simp
    have P:(Pm.ag g ls).length= 14:=by rw [Pm.sP,HL.out]
    have V:=Pm.nH g ls;have ad:=hT D;have HU:=hT hu;have bm:=hT P;have bq:=hT V;have J1:=hT R;have J2:=hT Q;have E1:=hT T;have E2:=hT S;clear D hu P V R Q T S b d t s;go_wp2_with fail;refine (xP _).mono ?_;rintro e w1 ⟨rfl,O,A⟩;have bf:=hT O;have K:=hT (HB.out.trans (A.mono N));have l:=(ad.out.below A).more A.size;have J:=hT l;clear O A l;go_wp2_with fail;refine (mj Pm.zs (Pm.ag g ls) w1.heap.size (some ⟨wr.heap.size,0,none⟩) (some ⟨g1,0,none⟩) 14 14 14 c1 _ rfl bm.out (by omega) (by omega) (nm _) bf.out J.out HU.out).mono ?_;rw [J1.out,J2.out];rintro e w2 ⟨rfl,X⟩;have bt:=zT K X;clear X;go_wp2_with fail;refine (GX (Pm.body g ls) _ (by rw [bq.out];omega)).mono ?_;rintro e w3 ⟨rfl,W⟩;have bs:=zT bt W;clear W;go_wp2;go_ret2;exact ⟨by rw [E1.out,E2.out];rfl,bs.out⟩
 ·have bX:((n:Int) != 13):=by rw [bne_iff_ne];omega
  have f:=Pm.iB g ls (Pm.Fh ls (by omega));rw [f.1,f.2];clear f Z hr hl;go_enter func251,ntmps251;go_wp2;go_ret2;exact ⟨rfl,Below.refl _ _⟩
end
section
open Go.RowKit
def mR (s:zL) (w:World) (e:Ending) (w':World):Prop:= ∃a n c,e= nf (CE #[zU (Pm.aH s:Int), .slice a n c,zI (Pm.av s)])/\n= (Pm.da s).length/\Row w' w'.heap.size a n (bz (Pm.da s))/\zB w w'
theorem gx (s:zL) (w w':World) (x:Int) (h:Pm.av s= x/\Pm.aH s= 0/\Pm.da s= []) (a:zB w w'):mR s w (nf (CE #[zU 0, .slice none 0 0,zI x])) w':= ⟨none,0,0,by rw [h.1,h.2.1];rfl,by rw [h.2.2];rfl,Row.empty _ _ _ _,a⟩
theorem Kx (s:zL) (w w':World) (y:Nat) (a:Option Addr) (c:Nat) (h:Pm.av s= 0/\Pm.aH s= y/\Pm.da s= Pm.bU (s.take 60)) (b:Row w' w'.heap.size a 13 (bz (Pm.bU (s.take 60)))) (d:zB w w'): mR s w (nf (CE #[zU y, .slice a 13 c,zI 0])) w':= ⟨a,13,c,by rw [h.1,h.2.1],by rw [h.2.2,Pm.pP],by rw [h.2.2];exact b,d⟩
theorem Ky (s:zL) (w:World) (h:s.length≠64):zF 244 #[.string (Om.B s)] w (mR s w):=by
 have a:(((Om.B s).size:Int) != 64):=by rw [bne_iff_ne,Om.aG];omega
 have hd:=Pm.Fl s h;have b:=hT hd;clear hd h;go_enter func244,ntmps244;go_wp2;go_ret3;exact gx s w w 21 b.out zR
theorem Kz (s:zL) (w:World) (h:s.length= 64) (a:Cm.aN s= false):zF 244 #[.string (Om.B s)] w (mR s w):=by
 have d:(((Om.B s).size:Int) != 64)= false:=by rw [bne_eq_false_iff_eq,Om.aG];omega
 have hd:=Pm.Fm s h a;have b:=λw1=>fS s w1 (by omega) (by omega);rw [a]at b;have C:=hT b;have g:=hT hd;clear hd h a b;go_enter func244,ntmps244;go_wp2_with fail;refine (C.out _).mono ?_;rintro e w1 ⟨f,c⟩;obtain rfl:e= zV (.string (Om.B [])) (zI 31):=f;have i:=hT c;clear c;go_wp2;go_ret3;exact gx s w w1 31 g.out i.out
theorem KA (s:zL) (w:World) (h:s.length= 64) (hg:Cm.aN s):zF 244 #[.string (Om.B s)] w (mR s w):=by
 have bm:(((Om.B s).size:Int) != 64)= false:=by rw [bne_eq_false_iff_eq,Om.aG];omega
 have hc:=λw1=>fS s w1 (by omega) (by omega);have T:(s.take 60).length= 60:=by rw [E4];omega
 have d:=Pm.kX s h hg;have u:=Pm.gQ s h hg;rw [hg,h]at hc;unfold Pm.aU at d u;obtain ⟨b,hb⟩:=eX1 (s.take 60);have S:∀w1,zF 155 #[.string (Om.B s)] w1 λe w'=>e= zV (.string (Om.B b)) (zI 0)/\zB w1 w':=λw1=>by rw [hb];exact (hc w1).mono λe w' h=>h
 have K:Pm.bU (s.take 60)= Pm.bU b:=by rw [hb]
 rw [<-hb]at d u T;have C:=hT S;have HF:=hT d;have HK:=hT u;have W:=hT K;clear d u hc S h hg K hb;have ab:=Pm.Fk b;obtain ⟨g,y⟩:=eX1 (Pm.ki b);rw [<-y]at HK ab;have HG:=hT y;obtain ⟨q,hq⟩:=eX1 (b.drop 56);have N:q.length<=4611686018427387904:=by rw [hq,IV];omega
 obtain ⟨z,hz⟩:=eX1 (dB q);obtain ⟨r,Y⟩:=eX1 (Pm.dD (Pm.bU b));have Z:=hT (λw1=>nD q w1 N);have R:=hT (λB a c w1 h1 h2=>GU b B a c w1 h1 h2);have k:r= true->ep b= arr b 13:=λe=>by unfold ep;rw [<-Y,if_pos e]
 have af:=hT k;rw [<-hz]at Z;rw [<-Y]at R;rw [<-hq,<-hz,<-Y]at HF HK;have G:=hT (λB a cap w1 h1 h2=>qA b Pm.zs B a 14 cap w1 rfl (by omega) h1 h2 Pm.xl (by rw [Pm.iA 14 (nm _)];omega));have t:b.drop (Om.off Pm.zs 14)= q:=by rw [Pm.iA 14 (nm _),hq]
 unfold yV at G;rw [t]at G;have v:(ep b).size= 13:=by unfold ep;split<;>exact qb _ _
 have L:(ep b).all (·.oneCell'):=by unfold ep;split<;>exact tz _ _
 have n:(prog.info? 306).map (·.size)= some (ep b).size:=by rw [v];kernel_rfl
 have D:=hT v;have F:=hT L;have H:=hT n;clear y hq hz Y k t N T v L n;go_enter func244,ntmps244;go_wp2_with fail;refine zg (C.out _) λw1 hb1=>?_;have bl:=hT hb1;clear hb1;go_wp2_with fail;refine (xP _).mono ?_;rintro e w2 ⟨rfl,M,V⟩;have aw:=hT M;have bg:=zT bl V;clear M V;go_wp2_with fail;refine (G.out w2.heap.size _ _ _ (nm _) aw.out).mono ?_;rintro e w3 ⟨J,rfl,ad,x,j,U⟩;have bf:=zT bg U;have ba:=hT j;have m:Row w3 w3.heap.size (some ⟨J,1,none⟩) 13 (tA b):=λ_=>⟨J,1,rfl,x,λi hi=>by rw [Nat.add_comm,j (i+1) (by omega)];rfl⟩;have E:=hT m;clear j U m ad;go_wp2_with fail;refine zg (R.out w3.heap.size _ _ _ (nm _) E.out) λw4 hb4=>?_;have bb:=zT bf hb4;have Q:w4.cell? (zD J 0)= some (.int wb g):=by rw [hb4.cell (p:=(zD J 0)) x,ba.out 0 (by omega),HG.out];rfl
 have O:=ti x hb4.size;clear hb4;have o:((w4.alloc (hV #[zI 0,zI 0,zI 0,zI 0,zI 0,zI 0,zI 0,zI 0,zI 0,zI 0,zI 0,zI 0,zI 0] 306)).setRow w4.heap.size (ep b)).heap[w4.heap.size]?= some (hV (ep b) 306 (0,0)):=setRow_heap _ _ _ _ _ _ (heap_alloc_new _ _);have A:zB w4 ((w4.alloc (hV #[zI 0,zI 0,zI 0,zI 0,zI 0,zI 0,zI 0,zI 0,zI 0,zI 0,zI 0,zI 0,zI 0] 306)).setRow w4.heap.size (ep b)):=nB zA (nm _) _;have P:((w4.alloc (hV #[zI 0,zI 0,zI 0,zI 0,zI 0,zI 0,zI 0,zI 0,zI 0,zI 0,zI 0,zI 0,zI 0] 306)).setRow w4.heap.size (ep b)).cell? (zD J 0)= some (.int wb g):=by rw [A.cell (p:=(zD J 0)) O,Q]
 have HH:=hT o;have I:=zT bb A;clear Q A o;cases r with
  | false => have f:=HF.out (by simp);have X:=hT f;clear f P;go_wp2_with (first|(refine wpList_store_row rfl 306 _ _ rfl w4.heap.size (ep b) rfl rfl 306 _ (heap_alloc_new _ _) H.out (by rw [D.out];rfl) F.out ?_));go_ret3;exact gx s w _ 32 X.out I.out
  | true => cases z with
  | false => have f:=HF.out (by simp);have X:=hT f;clear f P;go_wp2_with (first|(refine wpList_store_row rfl 306 _ _ rfl w4.heap.size (ep b) rfl rfl 306 _ (heap_alloc_new _ _) H.out (by rw [D.out];rfl) F.out ?_));refine zh (Z.out _) ?_;go_wp2;go_ret3;exact gx s w _ 32 X.out I.out
  | true => have f:=HK.out (by simp);rw [<-W.out]at f;have X:=hT f;have k:=af.out rfl;have l:Row ((w4.alloc (hV #[zI 0,zI 0,zI 0,zI 0,zI 0,zI 0,zI 0,zI 0,zI 0,zI 0,zI 0,zI 0,zI 0] 306)).setRow w4.heap.size (ep b)) ((w4.alloc (hV #[zI 0,zI 0,zI 0,zI 0,zI 0,zI 0,zI 0,zI 0,zI 0,zI 0,zI 0,zI 0,zI 0] 306)).setRow w4.heap.size (ep b)).heap.size (some ⟨w4.heap.size,0,none⟩) 13 (bz (Pm.bU b)):=λ_=>⟨w4.heap.size,0,rfl,by simp,λi hi=>by rw [cell_of_row _ _ _ _ _ _ HH.out,k,Nat.zero_add,GL b 13 i hi (nm _)];unfold bz;rw [Pm.nI b i hi]⟩;have ao:=hT l;clear f k l;go_wp2_with (first|(refine wpList_store_row rfl 306 _ _ rfl w4.heap.size (ep b) rfl rfl 306 _ (heap_alloc_new _ _) H.out (by rw [D.out];rfl) F.out ?_));refine zh (Z.out _) ?_;go_wp2;go_quiet (fail);go_wp2;go_ret3;exact Kx s w _ g _ _ X.out (by rw [W.out];exact ao.out.below (fc zR nq)) (fc I.out nq)
theorem KC (s:zL) (w:World):zF 244 #[.string (Om.B s)] w (mR s w):=by
 by_cases h:s.length= 64;· cases hg:Cm.aN s with
  | false=>exact Kz s w h hg
  | true=>exact KA s w h hg
 ·exact Ky s w h
end
end Go.Proofs.YtchihokmgmchcaaGreat
