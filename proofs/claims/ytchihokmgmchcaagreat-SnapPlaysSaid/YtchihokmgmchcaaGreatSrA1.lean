/- A1, of the proof -/
import Derived.Test.YtchihokmgmchcaaGreatSrM3
import Derived.Test.YtchihokmgmchcaaGreatSrB1
import Derived.Test.YtchihokmgmchcaaGreatSq0K
import Derived.ProofKit
import Derived.WalkLawsBesides
import Derived.Shelf.Strings.Repeat
import Derived.BigQuiet
import Derived.Shelf.Strings.BuilderK
set_option linter.unusedVariables false
set_option maxRecDepth 100000
set_option maxHeartbeats 4000000
namespace Go.Proofs.YtchihokmgmchcaaGreat
open Go.Proofs.Tryz
open _root_.Array renaming getElem?_eq_none->VC,getElem?_eq_some_iff->DN
open Go.IntKind renaming u32->TG,u64->wb
open Go.Lib renaming byteCells->KP,byteCells_append->VU,byteCells_length->Uy,hid->hT,toList_data->XO
open List renaming all_eq_true->TX,getElem?_append_right->TY,getElem?_eq_getElem->C1,getElem?_replicate->TR,length_drop->IV,length_take->E4,mem_iff_getElem->XQ,replicate->vw,replicate_succ->VA,set_append_right->UN,take_length->Vj,take_succ_eq_append_getElem->TD
open Nat renaming le_refl->nm,lt_of_lt_of_le->ti,min_eq_left->UQ,zero_le->yb
open Go.RowKit renaming intOf->CS
open Go.Obj renaming cells->hV
open Go.Shelf renaming Ren->UU
open Go.Proofs.Builder renaming Extra->XM
open Go.Value renaming pointer->xb
open Go.Ending renaming returned->nf
open Int renaming eq_ofNat_of_zero_le->XR,toNat_natCast->GH
open Go.IntWalk renaming u64_in->T6
section
open Go.RowKit
def Row (w:World) (B:Nat) (a:Option Addr) (n:Nat) (f:Nat->Value):Prop:= 0<n->∃b off,a= some ⟨b,off,none⟩/\b<B/\∀i,i<n->w.cell? ⟨b,off+i,none⟩= some (f i)
theorem Row.empty (w:World) (B:Nat) (a:Option Addr) (f:Nat->Value):Row w B a 0 f:=λh=>absurd h (by omega)
variable{w:World}{B n:Nat}{a:Option Addr}{f:Nat→Value}
theorem Row.keep {w':World} (h:Row w B a n f) (hk:∀p:Addr,p.block<B->w'.cell? p= w.cell? p):Row w' B a n f:=λhn=>by obtain ⟨b,off,e,c,d⟩:=h hn;exact ⟨b,off,e,c,λi hi=>(hk ⟨b,off+i,none⟩ c).trans (d i hi)⟩
theorem Row.below {w':World} (h:Row w B a n f) (hb:Below B w w'):Row w' B a n f:=h.keep λ_ hp=>hb.cell hp
theorem Row.more {B':Nat} (h:Row w B a n f) (g:B<=B'):Row w B' a n f:=λhn=>by obtain ⟨b,off,e,d,c⟩:=h hn;exact ⟨b,off,e,by omega,c⟩
variable{base:Nat}{t:TypeId}{xs:List Value}
theorem Row.own {c:Nat} (h:w.ownsRow base t 1 (.slice a n c) n xs) (k:∀i,i<n->xs[i]?= some (f i)):Row w w.heap.size a n f:=λhn=>by
 rcases h.2 with ⟨_,l⟩|⟨g,cap,cur,j,_,e,_⟩;· omega
 ·injection j with ha _ hc;subst ha;subst hc;have b:g<w.heap.size:=by
   rcases Nat.lt_or_ge g w.heap.size with d|d;· exact d
   ·rw [VC d]at e;cases e
  exact ⟨g,0,rfl,b,λi hi=>by rw [Nat.zero_add,h.cellAt i (by omega)];exact k i hi⟩
theorem Ew {a:World} (h:zB a w) (row:Option Nat):a.grownBy w row:=⟨h.os,h.tape,h.output,h.size,λi hi _=>h.block i hi⟩
variable{v:Value}
theorem Ex {w':World} {sz:Nat} (h:w.ownsRow base t sz v n xs) (a:zB w w'):w'.ownsRow base t sz v n xs:=by refine h.kept (Ew a none) ?_;cases v.ownBlock<;>simp
theorem fc {a:World} (h:Below B a w) (n:Nat):Below B a (w.drewN n):=⟨h.os,h.tape,h.output,h.size,h.block⟩
theorem nA {a:Addr} (h:w.cell? a= some v):a.block<w.heap.size:=by
 unfold World.cell? at h;by_cases b:a.block<w.heap.size;· exact b
 ·rw [VC (by omega)]at h;simp at h
theorem kV:(prog.info? 5).map (λi=>(i.zero,i.size,i.bytes))= some (some (.int .u8 0),1,1):=by kernel_rfl
theorem wU:(prog.info? 197).map (λi=>(i.zero,i.size,i.bytes))= some (some (.int wb 0),1,8):=by kernel_rfl
end
section
open Go.RowKit
theorem sG (z:Int) (w:World) (h:0<=z) (a:z<=8):zF 234 #[zI z] w (zQ (.bool true) w):=by go_enter func234,ntmps234;go_wp2;go_ret;exact ⟨rfl,rfl⟩
theorem wV (z:Int) (w:World) (h:¬(0<=z/\z<=8)):zF 234 #[zI z] w (zQ (.bool false) w):=by
 by_cases b:0<=z;· have a:¬z<=8:=λa=>h ⟨b,a⟩;clear h;go_enter func234,ntmps234;go_wp2;go_ret;exact ⟨rfl,rfl⟩
 ·clear h;go_enter func234,ntmps234;go_wp2;go_ret;exact ⟨rfl,rfl⟩
theorem pq (n z:Int) (w:World) (h:¬(0<=z/\z<=8)):zF 197 #[.int wb n,zI z] w λe w'=>e= zV (.string (Om.B [])) (zI 1)/\w= w':=by go_enter func197,ntmps197;go_wp2_with fail;refine zh (wV z _ h) ?_;go_wp2;go_ret2;exact ⟨rfl,rfl⟩
theorem Ey (n k:Nat) (w:World) (h:k<=8) (a:¬n<256 ^ k):zF 197 #[.int wb n,zI k] w λe w'=>e= zV (.string (Om.B [])) (zI 2)/\w= w':=by
 have h1:=Om.rY n k;have b:((Om.sh n k:Int) != 0):=by have:=Om.Ds n k a;rw [bne_iff_ne];omega
 clear a;go_enter func197,ntmps197;go_wp2_with fail;refine zh (sG _ _ (by omega) (by omega)) ?_;go_wp2;go_ret2;exact ⟨rfl,rfl⟩
def iZ (n z k:Nat):List Value:=KP (Om.low n k) ++ vw (z - k) (.int .u8 0)
theorem Ez (n z k:Nat) (h:k<z):(iZ n z k)[k]?= some (.int .u8 0):=by unfold iZ;rw [TY (by rw [Uy,Om.g_];exact nm _),Uy,Om.g_,TR,if_pos (by omega)]
theorem EA (n z k:Nat) (h:k<z):(iZ n z k).set k (.int .u8 ((UInt8.ofNat (Om.sh n k)).toNat:Int))= iZ n z (k+1):=by
 unfold iZ;obtain ⟨m,hm⟩:∃m,z - k= m+1:=⟨z - k - 1,by omega⟩;have a:z - (k+1)= m:=by omega
 rw [hm,a,UN _ _ (by rw [Uy,Om.g_];exact nm _),Uy,Om.g_,Om.Df,VU,Nat.sub_self,VA];simp [KP,Om.sh]
theorem lT (n k:Nat) (w:World) (h:k<=8) (t:n<256 ^ k):zF 197 #[.int wb n,zI k] w λe w'=>e= zV (.string (Om.B (Om.low n k))) (zI 0)/\zB w w':=by
 obtain ⟨u,hi,q,o,m⟩:=info_parts kV;have h1:=Om.rY n k;have y:((Om.sh n k:Int) != 0)= false:=by rw [Om.Dr n k t];rfl
 clear t;go_enter func197,ntmps197;go_wp2_with fail;refine zh (sG _ _ (by omega) (by omega)) ?_;go_wp2_with (refine wpList_make_full _ rfl _ _ 79 rfl w.heap.size 5 u (.int .u8 0) 1 underlying79 hi q o .i64 .i64 _ _ k rfl rfl rfl rfl ?c1 ?c2 ?c3 ?_);case c1=>rw [m];omega
 case c2=>unfold maxLen;omega
 case c3=>exact nm _
 intro w1 a c;have b:w1.ownsRow w.heap.size 5 1 (zS w.heap.size k k) k (iZ n k 0):=by
  rw [toList_madeCells_one]at a;have e:iZ n k 0= vw k (.int .u8 0):=by simp [iZ,Om.low,KP]
  rw [e];exact a
 have d:=zR.grown c (nm _) (λj s=>by cases s);clear a c h1 y;go_wp2;go_loopw [20] (λi wr=>∃j:Nat,j<=k/\i= zI j/\wr.ownsRow w.heap.size 5 1 (zS w.heap.size k k) k (iZ n k j)/\zB w wr) (λi _=>k - (CS i).toNat);case atStart=>exact ⟨0,yb _,rfl,b,d⟩
 case round=>
  obtain ⟨j,s,rfl,a,f⟩:=hrel;clear b d;by_cases l:j<k;·
   have h1:=Om.rY n j;have r:wr.cell? (zz w j)= some (.int .u8 0):=by rw [a.cellAt j (by omega),Ez n k j l]
   have v:=a.frozenAt j;have g:=a.stored j (.int .u8 ((UInt8.ofNat (Om.sh n j)).toNat:Int));rw [EA n k j l]at g;have z:=hT g;clear g a;go_wp2;go_roundw;case rel=>
    refine ⟨j+1,by omega,by go_num,?_,?_⟩;· exact z.out.1
    ·exact f.setCell (p:=(zz w j)) (nm _) _
   case measure=>simp [CS];omega
  ·obtain rfl:j= k:=by omega
   have x:(convert 79 9 (zS w.heap.size j j)).run prog wr= .ok (.string (Om.B (Om.low n j))) wr:=by have h:=run_convert_bytes_back (P:=prog) wr 79 9 5 ⟨w.heap.size,0,none⟩ j (Om.low n j) underlying79 underlying5 underlying9 (λi hi=>by rw [Om.g_]at hi;rw [show (⟨w.heap.size,0,none⟩:Addr).add i= ⟨w.heap.size,i,none⟩ from by unfold Addr.add;split<;>simp_all,a.cellAt i (by omega)];simp [iZ,KP,Om.g_,hi]);rw [Om.g_]at h;exact h
   clear a l;go_wp2;go_ret2;exact ⟨rfl,f⟩
theorem jx (a b:zL) (h:a.length+b.length<4611686018427387904):¬9223372036854775807< (Om.B a).size+ (Om.B b).size:=by rw [Om.aG,Om.aG];omega
end
section
open Go.RowKit
theorem EB (x:Nat) (w:World) (h:x<4294967296):zF 299 #[zU x] w (zQ (zU (Cm.step x:Int)) w):=by
 by_cases c:x % 2= 0;·
  have h1:((x:Int) % 2 == 0):=by rw [beq_iff_eq];omega
  have a:(Cm.step x:Int)= (x:Int) / 2:=by unfold Cm.step;rw [if_pos c];omega
  have b:=hT a;clear a;go_enter func299,ntmps299;go_wp2;go_ret;exact ⟨by rw [b.out];rfl,rfl⟩
 ·have h1:((x:Int) % 2 == 0)= false:=by rw [beq_eq_false_iff_ne];omega
  have a:(Cm.step x:Int)= bits .xor TG ((x:Int) / 2) 3988292384:=by unfold Cm.step;rw [if_neg c];exact (u32_xor_nat (x / 2) 3988292384 (by omega) (by omega)).symm
  have b:=hT a;clear a;go_enter func299,ntmps299;go_wp2;go_ret;exact ⟨by rw [b.out];rfl,rfl⟩
def dq (k:Nat):Array Value:=((List.range 16).map λi=>Value.int TG (if i<k then (Cm.kg i:Int) else 0)).toArray
theorem sH (k:Nat):(dq k).size= 16:=by simp [dq]
theorem EC (k:Nat) (h:k<16):(dq k)[k]?= some (zU 0):=by simp [dq,h]
theorem ED (h:Nat) (a:h<16):(dq 16)[h]?= some (zU (Cm.kg h:Int)):=by simp [dq,a]
theorem EF (k:Nat) (h:k<16):(dq k).setIfInBounds k (zU (Cm.kg k:Int))= dq (k+1):=by
 apply Array.ext;· simp [dq]
 ·intro i h1 a;rw [Array.getElem_setIfInBounds];by_cases e:k= i;· subst e;simp [dq]
  ·simp only [e,if_false,dq,List.getElem_toArray,List.getElem_map,List.getElem_range];have:(i<k)↔(i<k+1):=by omega
   simp only [this]
  ·simpa [dq] using a
theorem wW (k:Nat):(dq k).all (·.oneCell')= true:=by simp [dq,Value.oneCell']
theorem nB {B g:Nat} {a w:World} (h:Below B a w) (b:B<=g) (cs:Array Value):Below B a (w.setRow g cs):= ⟨h.os,h.tape,h.output,by rw [size_setRow];exact h.size,λk hk=>(setRow_other w g k cs (by omega)).trans (h.block k hk)⟩
theorem EG (w:World):zF 271 #[] w (zJ (.agg (dq 16)) w):=by
 have b:(prog.info? 299).map (·.size)= some (dq 16).size:=by rw [sH];kernel_rfl
 go_enter func271,ntmps271;go_wp2;go_loopw [3] (λi wr=>∃k:Nat,k<=16/\i= zI k/\wr.heap[w.heap.size]?= some (hV (dq k) 299 (0,0))/\zB w wr) (λi _=>16 - (CS i).toNat);case atStart=>exact ⟨0,by omega,rfl,heap_alloc_new _ _,zA⟩
 case round=>
  obtain ⟨k,hk,rfl,a,c⟩:=hrel;obtain ⟨f,rfl⟩:∃f:World,f= wr:=⟨_,rfl⟩;by_cases g:k<16;·
   have h:f.cell? (zz w k)= some (zU 0):=by rw [cell_of_row _ _ _ _ _ _ a,EC k g]
   have r:=frozen_of_row f w.heap.size k _ _ a;have d:=heap_setCell_same f w.heap.size k _ _ (zU (Cm.kg k:Int)) a;rw [EF k g]at d;have t:=hT d;have l:=hT c;clear d a c;have hd:decide ((k:Int) <16):=by simp;omega
   go_wp2;go_loop [2,8] (λv j=>∃m:Nat,m<=4/\j= zI m/\v= zU (Cm.steps m k:Int)) (λ_ j=>4 - (CS j).toNat);case atStart=>exact ⟨0,by omega,rfl,rfl⟩
   case round=>
    obtain ⟨m,hm,rfl,rfl⟩:=hrel;by_cases n:m<4;·
     have q:=Cm.wN m k (by omega);go_wp2_with fail;refine zh (EB _ _ q) ?_;go_wp2;go_round;case rel=>exact ⟨m+1,by omega,by go_num,rfl⟩
     case measure=>simp [CS];omega
    ·obtain rfl:m= 4:=by omega
     go_wp2;go_roundw;case rel=>exact ⟨k+1,by omega,by go_num,t.out,l.out.setCell (p:=(zz w k)) (nm _) _⟩
     case measure=>simp [CS];omega
  ·obtain rfl:k= 16:=by omega
   have o:=hT a;have e:=setRow_heap f w.heap.size _ (dq 16) _ _ a;have s:=hT e;have l:=hT c;clear a e c;go_wp2_with (first|(refine wpList_load_row rfl 299 _ rfl w.heap.size rfl 299 (dq 16) (0,0) _ o.out underlying299 rfl b ?_)|(refine wpList_store_row rfl 299 _ _ rfl w.heap.size (dq 16) rfl rfl 299 (dq 16) o.out b rfl (wW 16) ?_));refine bodyPost_ret (results_cell_row (p:=0) (ty:=299) rfl _ _ w.heap.size 299 (dq 16) (0,0) _ rfl s.out underlying299 rfl b) rfl ⟨rfl,nB l.out (nm _) _⟩
end
section
open Go.RowKit
theorem EH (ls:List (List UInt8)) (k:Nat) (h:k<ls.length):(ls.take (k+1)).flatten= (ls.take k).flatten ++ ls.getD k []:=by rw [TD h,List.flatten_append];simp [C1 h]
theorem EJ (c:Nat) (l:zL) (m:Nat) (h:m<l.length):Cm.run c (l.take (m+1))= Cm.byte (Cm.run c (l.take m)) l[m]:=by rw [TD h,Cm.wR];rfl
theorem EL (c:Nat) (b:UInt8) (h:c<4294967296):bits .xor TG (c:Int) ((b.toNat:Int) % 4294967296)= ((c ^^^ b.toNat:Nat):Int):=by have a:=b.toNat_lt;rw [show (b.toNat:Int) % 4294967296= (b.toNat:Int) by omega];exact u32_xor_nat _ _ h (by omega)
theorem EP (x:Nat) (h:x<4294967296):bits .xor TG ((x:Int) / 16) (Cm.kg (x % 16):Int)= (Cm.half x:Int):=u32_xor_nat (x / 16) _ (by omega) (Cm.wO _ (by omega))
def wX (ls:List (List UInt8)) (i:Nat):Value:= .string (Om.B (ls.getD i []))
theorem ET (ls:List (List UInt8)) (B:Nat) (a:Option Addr) (n cap:Nat) (w:World) (G:ls.length= n) (hn:n<=9223372036854775807) (hB:B<=w.heap.size) (Y:Row w B a n (wX ls)) (X:∀i,(ls.getD i []).length<=4611686018427387904): zF 235 #[.slice a n cap] w (zJ (zU (Cm.sum ls.flatten:Int)) w):=by
 have u:(prog.info? 299).map (·.size)= some (dq 16).size:=by rw [sH];kernel_rfl
 have D:=sH 16;have O:=hT D;have HR:=hT Y;have HL:=hT G;have Q:=hT X;clear D Y G X;go_enter func235,ntmps235;go_wp2_with fail;refine zg (EG _) λw1 hb1=>?_;have z:=hT hb1;clear hb1;go_wp2_with (refine wpList_store_row rfl 299 _ _ rfl w1.heap.size (dq 16) rfl rfl 299 _ (heap_alloc_new _ _) u O.out.symm (wW 16) ?_);go_loopw [4,11] (λleft i wr=>∃k:Nat,k<=n/\i= zI k/\left= zU (Cm.run 4294967295 (ls.take k).flatten:Int)/\wr.heap[w1.heap.size]?= some (hV (dq 16) 299 (0,0))/\zB w wr) (λ_ i _=>n - (CS i).toNat);case atStart=> refine ⟨0,yb _,rfl,rfl,setRow_heap _ _ _ _ _ _ (heap_alloc_new _ _),nB (z.out.alloc z.out.size _) z.out.size _⟩
 case round=>
  obtain ⟨k,hk,rfl,rfl,j,f⟩:=hrel;obtain ⟨M,rfl⟩:∃M:World,M= wr:=⟨_,rfl⟩;by_cases F:k<n;·
   obtain ⟨ab,ao,rfl,N,K⟩:=HR.out (by omega);have v:M.cell? ⟨ab,ao+k,none⟩= some (.string (Om.B (ls.getD k []))):=by rw [f.cell (p:=⟨ab,ao+k,none⟩) (ti N hB),K k F,wX]
   have J:=Cm.sF 4294967295 (ls.take k).flatten (by omega);have b:Cm.run 4294967295 (ls.take (k+1)).flatten= Cm.run (Cm.run 4294967295 (ls.take k).flatten) (ls.getD k []):=by rw [EH ls k (by rw [HL.out];exact F),Cm.wR]
   have t:=Q.out k;obtain ⟨l,G⟩:=eX1 (ls.getD k []);obtain ⟨c,I⟩:=eX1 (Cm.run 4294967295 (ls.take k).flatten);rw [<-G]at v b t;rw [<-I]at J b⊢;have R:=hT b;have s:=hT j;have T:=hT f;clear b G I j f K;have ad:(Om.B l).size<=4611686018427387904:=t;clear t;go_wp2;go_loop [4,17] (λleft i=>∃m:Nat,m<=(Om.B l).size/\i= zI m/\left= zU (Cm.run c (l.take m):Int)) (λ_ i=>(Om.B l).size - (CS i).toNat);case atStart=>exact ⟨0,yb _,rfl,rfl⟩
   case round=>
    obtain ⟨m,hm,rfl,rfl⟩:=hrel;by_cases E:m< (Om.B l).size;·
     have H:=Cm.sF c (l.take m) J;have o:=EL (Cm.run c (l.take m)) (Om.B l)[m] H;have h:Cm.run c (l.take (m+1))= Cm.kh 2 (Cm.run c (l.take m) ^^^ (Om.B l)[m].toNat):=EJ c l m E;have C:=Cm.wQ (Cm.run c (l.take m)) (Om.B l)[m] H;obtain ⟨x,V⟩:=eX1 (Cm.run c (l.take m) ^^^ (Om.B l)[m].toNat);rw [<-V]at o h C;have L:=hT o;have S:=hT h;clear o h V;go_wp2;go_loop [4,26] (λleft i=>∃d:Nat,d<=2/\i= zI d/\left= zU (Cm.kh d x:Int)) (λ_ i=>2 - (CS i).toNat);case atStart=>exact ⟨0,yb _,rfl,by rw [L.out];rfl⟩
     case round=>
      obtain ⟨d,af,rfl,rfl⟩:=hrel;by_cases Z:d<2;·
       have U:=Cm.wP d x C;have g:Cm.kh (d+1) x= Cm.half (Cm.kh d x):=rfl;obtain ⟨y,A⟩:=eX1 (Cm.kh d x);rw [<-A]at U g⊢;have q:=EP y U;have W:M.cell? ⟨w1.heap.size,y % 16,none⟩= some (zU (Cm.kg (y % 16):Int)):=by rw [cell_of_row _ _ _ _ _ _ s.out,ED _ (by omega)]
       have HH:=hT q;have P:=hT g;clear q g A;go_wp2;go_round;case rel=>exact ⟨d+1,by omega,by go_num,by rw [P.out,<-HH.out]⟩
       case measure=>simp [CS];omega
      ·obtain rfl:d= 2:=by omega
       go_wp2;go_round;case rel=>exact ⟨m+1,by omega,by go_num,by rw [S.out]⟩
       case measure=>simp [CS];omega
    ·obtain rfl:m= (Om.B l).size:=by omega
     go_wp2;go_roundw;case rel=>exact ⟨k+1,by omega,by go_num,by rw [R.out,show l.take (Om.B l).size= l from Vj],s.out,T.out⟩
     case measure=>simp [CS];omega
  ·obtain rfl:k= n:=by omega
   have J:=Cm.sF 4294967295 (ls.take k).flatten (by omega);have r:bits .xor TG TG.max (Cm.run 4294967295 (ls.take k).flatten:Int)= (Cm.sum ls.flatten:Int):=by
    have e:ls.take k= ls:=by rw [<-HL.out];exact Vj
    unfold Cm.sum;rw [show TG.max= ((4294967295:Nat):Int) from by decide,u32_xor_nat _ _ (by omega) J,<-Cm.not_eq _ J,e]
   have HF:=hT r;have T:=hT f;clear j f r;go_wp2;go_ret;exact ⟨by rw [<-HF.out];rfl,T.out⟩
theorem wY {w w1:World} {o:Obj} (h:Below (w.alloc o).heap.size (w.alloc o) w1):zB w w1:=by have a:zB w (w.alloc o):=zA;exact a.trans (h.mono a.size)
theorem EU (l:zL) (b:Nat) (w:World) (c:l.length<=4611686018427387904) (a:w.cell? (zD b 0)= some (.string (Om.B l))):
 zF 235 #[zS b 1 1] w (zJ (zU (Cm.sum l:Int)) w):=by
 have h:=ET [l] w.heap.size (some ⟨b,0,none⟩) 1 1 w rfl (by omega) (nm _) (λ _=>⟨b,0,rfl,nA a,λ i hi=>by
 obtain rfl:i= 0:=by omega
 rw [a];rfl⟩) (λ i=>by
 cases i with
 | zero=>exact c
 | succ i=>simp)
 simpa using h
theorem sI (l:zL) (w:World) (c:l.length<=4611686018427387904): zF 199 #[.string (Om.B l)] w (zJ (.string (Om.B (Cm.four l))) w):=by have d:=Cm.Ev l;go_enter func199,ntmps199;go_wp2_with fail;refine zg (EU l _ _ c (by simp)) λw1 hb1=>?_;have a:=hT hb1;clear hb1;go_wp2_with fail;refine zg (lT (Cm.sum l) 4 _ (by omega) (by omega)) λw2 hb2=>?_;have b:=hT hb2;clear hb2;go_wp2;go_ret;exact ⟨rfl,wY a.out |>.trans (b.out.mono (wY a.out).size)⟩
end
section
open Go.Shelf Go.RowKit
def wZ:UU:=⟨λ|99=>224|105=>182|165=>225|166=>57|169=>59|170=>226|206=>238|212=>223|240=>126|241=>258|263=>256|264=>257|276=>172|277=>284|n=>n,λ|0=>0|3=>3|4=>4|5=>5|9=>9|20=>20|37=>79|46=>259|51=>66|53=>197|70=>109|72=>111|75=>113|76=>114|80=>45|109=>260|127=>172|146=>284|148=>286|164=>218|n=>n,λ|n=>n⟩
theorem EV:Go.Proofs.Lays.n105 prog wZ:={
 mixed:=by kernel_rfl
 f99:=func224.trans (congrArg some (by kernel_rfl))
 f105:=func182.trans (congrArg some (by kernel_rfl))
 f165:=func225.trans (congrArg some (by kernel_rfl))
 f166:=func57.trans (congrArg some (by kernel_rfl))
 f169:=func59.trans (congrArg some (by kernel_rfl))
 f170:=func226.trans (congrArg some (by kernel_rfl))
 f206:=func238.trans (congrArg some (by kernel_rfl))
 f212:=func223.trans (congrArg some (by kernel_rfl))
 f240:=func126.trans (congrArg some (by kernel_rfl))
 f241:=func258.trans (congrArg some (by kernel_rfl))
 f263:=func256.trans (congrArg some (by kernel_rfl))
 f264:=func257.trans (congrArg some (by kernel_rfl))
 f276:=func172.trans (congrArg some (by kernel_rfl))
 f277:=func284.trans (congrArg some (by kernel_rfl))
 t0:=underlying0
 a0:=isAgg0
 z0:=sizeOf0
 v0:=zeroValue0
 t3:=underlying3
 a3:=isAgg3
 z3:=sizeOf3
 v3:=zeroValue3
 t4:=underlying4
 a4:=isAgg4
 z4:=sizeOf4
 v4:=zeroValue4
 t5:=underlying5
 a5:=isAgg5
 z5:=sizeOf5
 v5:=zeroValue5
 t9:=underlying9
 a9:=isAgg9
 z9:=sizeOf9
 v9:=zeroValue9
 t20:=underlying20
 a20:=isAgg20
 z20:=sizeOf20
 v20:=zeroValue20
 t37:=underlying79
 a37:=isAgg79
 z37:=sizeOf79
 v37:=zeroValue79
 t46:=underlying259
 a46:=isAgg259
 z46:=sizeOf259
 v46:=zeroValue259
 t51:=underlying66
 a51:=isAgg66
 z51:=sizeOf66
 v51:=zeroValue66
 t53:=underlying197
 a53:=isAgg197
 z53:=sizeOf197
 v53:=zeroValue197
 t70:=underlying109
 a70:=isAgg109
 z70:=sizeOf109
 v70:=zeroValue109
 t72:=underlying111
 a72:=isAgg111
 z72:=sizeOf111
 v72:=zeroValue111
 t75:=underlying113
 a75:=isAgg113
 z75:=sizeOf113
 v75:=zeroValue113
 t76:=underlying114
 a76:=isAgg114
 z76:=sizeOf114
 v76:=zeroValue114
 t109:=underlying260
 a109:=isAgg260
 z109:=sizeOf260
 v109:=zeroValue260
 t127:=underlying172
 a127:=isAgg172
 z127:=sizeOf172
 v127:=zeroValue172
 t146:=underlying284
 a146:=isAgg284
 z146:=sizeOf284
 v146:=zeroValue284
 t148:=underlying286
 a148:=isAgg286
 z148:=sizeOf286
 v148:=zeroValue286
 t164:=underlying218
 a164:=isAgg218
 z164:=sizeOf218
 v164:=zeroValue218}
theorem EW:XM prog wZ:={
 sizeBuilder:=by kernel_rfl
 liesBuilder:=by kernel_rfl
 t5:=underlying5
 a5:=isAgg5
 z5:=sizeOf5
 v5:=zeroValue5
 infoByte:=by kernel_rfl
 cellsByte:=by kernel_rfl
 sizeByte:=by kernel_rfl
 neB5:=by decide}
theorem EX (c:Nat):Lib.repeatL [0] c= vw c 0:=by induction c with
 | zero=>rfl
 | succ c ih=>rw [Lib.repeatL,ih,VA];rfl
theorem pG (c:Nat) (w:World) (a:c<=140737488355328): zF 182 #[.string ⟨#[0]⟩,zI c] w (zJ (.string (Om.B (vw c 0))) w):=by have h:=Any.strings_Repeat EV EW ⟨#[0]⟩ c w (by omega) (by have:(⟨#[0]⟩:ByteArray).size= 1:=rfl;rw [this];omega);have e:(⟨#[0]⟩:ByteArray).data.toList= [0]:=rfl;rw [e,EX]at h;exact h
end
section
open Go.RowKit
def dZ (l:zL) (k:Nat):zL:=l ++ vw (k - l.length) 0
theorem sJ (l:zL) (k:Nat) (h:l.length<=k):(dZ l k).length= k:=by simp [dZ];omega
theorem EY (l:zL) (k:Nat) (w:World) (h:l.length<=k) (hk:k<=1048576): zF 198 #[.string (Om.B l),zI k] w λe w'=>e= zV (.string (Om.B (dZ l k))) (zI 0)/\zB w w':=by
 have h1:decide (1048576< (k:Int))= false:=by simp;omega
 have g:decide (k< (Om.B l).size)= false:=by rw [Om.aG];simp;omega
 have f:(Om.B l).size<=k:=by rw [Om.aG];exact h
 have b:=jx l (vw (k - l.length) 0) (by simp;omega);have a:(Om.B l).size= l.length:=rfl;have c:=hT a;clear h a;go_enter func198,ntmps198;go_wp2_with fail;rw [show ((k:Int) - ((Om.B l).size:Int))= ((k - l.length:Nat):Int) from by have:=c.out;omega];refine zg (pG (k - l.length) _ (by omega)) λw' hb=>?_;have d:=hT hb;clear hb;go_wp2;go_ret2;exact ⟨by unfold dZ;rw [<-Om.fy];rfl,d.out⟩
end
section
open Go.RowKit
def ff (l:zL) (k:Nat):zL:=dZ l k ++ Cm.four (dZ l k)
theorem pH (l:zL) (k:Nat) (w:World) (hk:k+4<=4096) (h:l.length<=k): zF 150 #[.string (Om.B l),zI ((k+4:Nat):Int)] w λe w'=>e= zV (.string (Om.B (ff l k))) (zI 0)/\zB w w':=by
 have d1:decide (((k+4:Nat):Int) <4)= false:=by simp;omega
 have d2:decide (4096< ((k+4:Nat):Int))= false:=by simp;omega
 have f:((k+4:Nat):Int) - 4= (k:Int):=by omega
 obtain ⟨z,a⟩:∃z:Int,z= ((k+4:Nat):Int):=⟨_,rfl⟩;rw [<-a]at d1 d2 f⊢;have m:4<=z:=by omega
 have j:z<=4096:=by omega
 have n:=hT f;have hlen:=sJ l k h;have i:=jx (dZ l k) (Cm.four (dZ l k)) (by rw [hlen,Cm.pF];omega);have c:=hT hlen;clear a f hlen;go_enter func150,ntmps150;go_wp2_with fail;rw [n.out];refine zg (EY l k _ h (by omega)) λw1 hb1=>?_;have d:=hT hb1;clear hb1;go_wp2_with fail;refine (sI (dZ l k) _ (by rw [c.out];omega)).mono ?_;rintro e w2 ⟨rfl,b⟩;have g:=hT b;clear b;go_wp2;go_ret2;exact ⟨by unfold ff;rw [<-Om.fy];rfl,d.out.trans (g.out.mono d.out.size)⟩
theorem w_ (p q:zL) (b:q.length= 4):∃s n,s= Om.B (p ++ q)/\n= p.length/\s.size= n+4/\s.extract n (n+4)= Om.B q/\s.extract 0 n= Om.B p:=by
 have a:(Om.B (p ++ q)).size= p.length+4:=by rw [Om.aG,List.length_append,b]
 refine ⟨_,_,rfl,rfl,a,?_,?_⟩;· rw [<-a,Om.j_,Om.fx,List.drop_left]
 ·rw [Om.pj,Om.fx,List.take_left]
theorem xd {p q:zL} (h:p≠q):((Om.B p).toList == (Om.B q).toList)= false:=by rw [beq_eq_false_iff_ne,XO,XO];intro c;exact h (by rw [<-Om.fx p,<-Om.fx q];exact c)
theorem EZ (p q:zL) (w:World) (f:q.length= 4) (hp:p.length<=1048576) (g:q= Cm.four p): zF 155 #[.string (Om.B (p ++ q))] w λe w'=>e= zV (.string (Om.B p)) (zI 0)/\zB w w':=by
 obtain ⟨s,n,d,j,h,c,m⟩:=w_ p q f;rw [<-d];have hd:decide ((n:Int) +4<4)= false:=by simp;omega
 have i:n<=1048576:=by omega
 have b:p.length<=4611686018427387904:=by omega
 rw [g]at c;have l:(0:Int)<=(n:Int):=by omega
 have k:(n:Int)<=(n:Int) +4:=by omega
 clear d j f g hp;go_enter func155,ntmps155;go_wp2;go_region_held3 (λ_=>True) (first|go_keep|trivial) (first|(go_at_call 199;refine zg (sI p _ b) λw1 hb1=>?_));have a:zB w w1:=⟨hb1.os,hb1.tape,hb1.output,hb1.size,hb1.block⟩;have o:=hT a;clear a hb1;go_wp2;go_ret2;exact ⟨rfl,o.out⟩
theorem E0 (p q:zL) (w:World) (d:q.length= 4) (hp:p.length<=1048576) (f:q≠Cm.four p): zF 155 #[.string (Om.B (p ++ q))] w λe w'=>e= zV (.string (Om.B [])) (zI 31)/\zB w w':=by
 obtain ⟨s,n,c,j,g,o,m⟩:=w_ p q d;rw [<-c];have hd:decide ((n:Int) +4<4)= false:=by simp;omega
 have h:n<=1048576:=by omega
 have b:p.length<=4611686018427387904:=by omega
 have l:(0:Int)<=(n:Int):=by omega
 have k:(n:Int)<=(n:Int) +4:=by omega
 have i:=xd f;clear c j d f hp;go_enter func155,ntmps155;go_wp2;go_region_held3 (λ_=>True) (first|go_keep|trivial) (first|(go_at_call 199;refine zg (sI p _ b) λw1 hb1=>?_));have a:zB w w1:=⟨hb1.os,hb1.tape,hb1.output,hb1.size,hb1.block⟩;have r:=hT a;clear a hb1;go_wp2;go_ret2;exact ⟨rfl,r.out⟩
theorem fS (l:zL) (w:World) (f:4<=l.length) (d:l.length<=1048576): zF 155 #[.string (Om.B l)] w λe w'=>(if Cm.aN l then e= zV (.string (Om.B (l.take (l.length - 4)))) (zI 0) else e= zV (.string (Om.B [])) (zI 31))/\zB w w':=by
 have c:(l.drop (l.length - 4)).length= 4:=by rw [IV];omega
 have hp:(l.take (l.length - 4)).length<=1048576:=by rw [E4];omega
 have e:l.take (l.length - 4) ++ l.drop (l.length - 4)= l:=List.take_append_drop _ _;by_cases b:l.drop (l.length - 4)= Cm.four (l.take (l.length - 4));·
  have h:=EZ _ _ w c hp b;rw [e]at h;have a:Cm.aN l:=by unfold Cm.aN;rw [beq_iff_eq];exact b
  rw [a];exact h
 ·have h:=E0 _ _ w c hp b;rw [e]at h;have a:Cm.aN l= false:=by unfold Cm.aN;rw [beq_eq_false_iff_ne];exact b
  rw [a];exact h
end
section
open Go.Shelf Go.RowKit
def sK:UU:=⟨λ|166=>57|169=>59|240=>126|276=>172|n=>n,λ|0=>0|3=>3|4=>4|5=>5|9=>9|20=>20|37=>79|70=>109|72=>111|75=>113|80=>45|127=>172|164=>218|n=>n,λ|n=>n⟩
theorem xe:Go.Proofs.Lays.n166 prog sK:={
 mixed:=by kernel_rfl
 f166:=func57.trans (congrArg some (by kernel_rfl))
 f240:=func126.trans (congrArg some (by kernel_rfl))
 f276:=func172.trans (congrArg some (by kernel_rfl))
 t0:=underlying0
 a0:=isAgg0
 z0:=sizeOf0
 v0:=zeroValue0
 t3:=underlying3
 a3:=isAgg3
 z3:=sizeOf3
 v3:=zeroValue3
 t4:=underlying4
 a4:=isAgg4
 z4:=sizeOf4
 v4:=zeroValue4
 t9:=underlying9
 a9:=isAgg9
 z9:=sizeOf9
 v9:=zeroValue9
 t20:=underlying20
 a20:=isAgg20
 z20:=sizeOf20
 v20:=zeroValue20
 t37:=underlying79
 a37:=isAgg79
 z37:=sizeOf79
 v37:=zeroValue79
 t70:=underlying109
 a70:=isAgg109
 z70:=sizeOf109
 v70:=zeroValue109
 t72:=underlying111
 a72:=isAgg111
 z72:=sizeOf111
 v72:=zeroValue111
 t75:=underlying113
 a75:=isAgg113
 z75:=sizeOf113
 v75:=zeroValue113
 t164:=underlying218
 a164:=isAgg218
 z164:=sizeOf218
 v164:=zeroValue218}
theorem xg:Go.Proofs.Lays.n169 prog sK:={
 mixed:=by kernel_rfl
 f169:=func59.trans (congrArg some (by kernel_rfl))
 t0:=underlying0
 a0:=isAgg0
 z0:=sizeOf0
 v0:=zeroValue0
 t3:=underlying3
 a3:=isAgg3
 z3:=sizeOf3
 v3:=zeroValue3
 t9:=underlying9
 a9:=isAgg9
 z9:=sizeOf9
 v9:=zeroValue9
 t37:=underlying79
 a37:=isAgg79
 z37:=sizeOf79
 v37:=zeroValue79
 t70:=underlying109
 a70:=isAgg109
 z70:=sizeOf109
 v70:=zeroValue109
 t72:=underlying111
 a72:=isAgg111
 z72:=sizeOf111
 v72:=zeroValue111
 t127:=underlying172
 a127:=isAgg172
 z127:=sizeOf172
 v127:=zeroValue172}
theorem pI:XM prog sK:={
 sizeBuilder:=by kernel_rfl
 liesBuilder:=by kernel_rfl
 t5:=underlying5
 a5:=isAgg5
 z5:=sizeOf5
 v5:=zeroValue5
 infoByte:=by kernel_rfl
 cellsByte:=by kernel_rfl
 sizeByte:=by kernel_rfl
 neB5:=by decide}
def gw (B b:Nat) (l:zL) (w:World):Prop:=Lib.IsBuilder 111 5 B b (KP l) w
theorem gw.below {B b:Nat} {l:zL} {w w':World} (h:gw B b l w) (c:zB w w'):gw B b l w':=by
 have key:∀p,Lib.BuilderAt 111 5 B b p (KP l) w->Lib.BuilderAt 111 5 B b p (KP l) w':=λp k=>by have a:=k.lt;obtain ⟨h1,v,f,e,d⟩:=k;exact ⟨h1,v,(c.block b a).trans f,Ex e c,d⟩
 rcases h with h|h;· exact .inl (key _ h)
 ·exact .inr (key _ h)
theorem gw.lt {B b:Nat} {l:zL} {w:World} (h:gw B b l w):b<w.heap.size:=by
 rcases h with h|h;· exact h.lt
 ·exact h.lt
theorem gw.new (w:World) (B:Nat) (a:B<=w.heap.size):gw B w.heap.size [] (w.alloc (hV #[xb none, .slice none 0 0] 111)):=by refine .inl ⟨a, .slice none 0 0,heap_alloc_new w _,World.ownsRow_nil _ _ _ _,?_⟩;simp [Value.ownBlock]
theorem fC (B b:Nat) (l m:zL) (w:World) (h:gw B b l w) (a:l.length+m.length<=140737488355328) (f:B<=w.heap.size): zF 57 #[zP b, .string (Om.B m)] w λe w'=>e= zV (zI m.length) .nilIface/\gw B b (l ++ m) w'/\Below B w w':=by refine (Any.Builder_WriteString xe pI B b (KP l) (Om.B m) w h (by rw [Uy];exact a) f).mono ?_;rintro e w' ⟨c,d,hw⟩;refine ⟨c, .inr ?_,hw⟩;rw [VU];exact d
theorem E3 (B b:Nat) (l:zL) (w:World) (h:gw B b l w) (hB:B<=w.heap.size): zF 59 #[zP b] w λe w'=>e= nf (.string (Om.B l))/\Below B w w':= Any.Builder_String_any xg pI B b l w h hB
end
section
open Go.RowKit
def bz (zs:zN) (i:Nat):Value:= zI (zs.getD i 0)
def gN (ls:List Nat) (i:Nat):Value:= .int wb ((ls.getD i 0:Nat):Int)
theorem E5 (zs:zN) (h:∀i,i<zs.length->Om.nk (zs.getD i 0)):Om.eB zs= true:=by unfold Om.eB;rw [TX];intro x a;obtain ⟨i,hi,rfl⟩:=XQ.1 a;have:=h i hi;simpa [C1 hi] using this
theorem E6 (zs:zN) (i:Nat) (hi:i<zs.length) (h:¬(0<=zs.getD i 0/\zs.getD i 0<=8)):Om.eB zs= false:=by
 cases hc:Om.eB zs;· rfl
 ·exact absurd (Om.lQ zs hc i) h
theorem sL (zs:zN) (B:Nat) (a:Option Addr) (n cap:Nat) (w:World) (o:zs.length= n) (v:n<=9223372036854775807) (m:Row w B a n (bz zs)): zF 196 #[.slice a n cap] w (zQ (.bool (Om.eB zs)) w):=by
 have q:=hT o;have t:=hT m;clear o m;go_enter func196,ntmps196;go_wp2;go_loop [7] (λi=>∃k:Nat,k<=n/\i= zI k/\Hid (∀i,i<k->Om.nk (zs.getD i 0)= true)) (λi=>n - (CS i).toNat);case atStart=>exact ⟨0,yb _,rfl,hT (λi hi=>absurd hi (by omega))⟩
 case round=>
  obtain ⟨k,hk,rfl,f⟩:=hrel;by_cases l:k<n;·
   obtain ⟨b,off,rfl,y,p⟩:=t.out (by omega);have c:=p k l;unfold bz at c;clear p;obtain ⟨x,h⟩:=eX1 (zs.getD k 0);rw [<-h]at c;by_cases g:0<=x/\x<=8;·
    have s:=hT h;clear h;go_wp2_with fail;refine zh (sG x _ g.1 g.2) ?_;go_wp2;go_round;case rel=>exact ⟨k+1,by omega,by go_num,hT (λi hi=>by
     by_cases e:i= k;· subst e;rw [<-s.out,Om.vR];exact g
     ·exact f.out i (by omega))⟩
    case measure=>simp [CS];omega
   ·have j:=E6 zs k (by rw [q.out];exact l) (by rw [<-h];exact g);have u:=hT j;clear j h;go_wp2_with fail;refine zh (wV x _ g) ?_;go_wp2;go_ret;exact ⟨by rw [u.out];rfl,rfl⟩
  ·obtain rfl:k= n:=by omega
   have d:=E5 zs (λi hi=>f.out i (by rw [q.out]at hi;exact hi));have r:=hT d;clear d;go_wp2;go_ret;exact ⟨by rw [r.out];rfl,rfl⟩
def gO (zs:zN) (ls:List Nat):zL:=if zs.length= ls.length/\Om.eB zs= true/\Om.gK zs ls ls.length= true then Om.ct zs ls ls.length else []
def gP (zs:zN) (ls:List Nat):Int:=if zs.length= ls.length/\Om.eB zs= true then if Om.gK zs ls ls.length= true then 0 else 2 else 1
theorem E7 (zs:zN) (ls:List Nat) (h:¬zs.length= ls.length):gO zs ls= []/\gP zs ls= 1:=by unfold gO gP;rw [if_neg (λc=>h c.1),if_neg (λc=>h c.1)];exact ⟨rfl,rfl⟩
theorem E8 (zs:zN) (ls:List Nat) (h:Om.eB zs= false):gO zs ls= []/\gP zs ls= 1:=by unfold gO gP;rw [if_neg (λc=>by rw [h]at c;exact absurd c.2.1 (by decide)),if_neg (λc=>by rw [h]at c;exact absurd c.2 (by decide))];exact ⟨rfl,rfl⟩
theorem nC (zs:zN) (ls:List Nat) (b:zs.length= ls.length) (a:Om.eB zs) (c:Om.gK zs ls ls.length):gO zs ls= Om.ct zs ls ls.length/\gP zs ls= 0:=by unfold gO gP;rw [if_pos ⟨b,a,c⟩,if_pos ⟨b,a⟩,if_pos c];exact ⟨rfl,rfl⟩
theorem E9 (zs:zN) (ls:List Nat) (i:Nat) (b:zs.length= ls.length) (a:Om.eB zs) (hi:i<ls.length) (d:¬ls.getD i 0<256 ^ (zs.getD i 0).toNat):gO zs ls= []/\gP zs ls= 2:=by have h:¬Om.gK zs ls ls.length:=λc=>d ((Om.kQ zs ls ls.length).1 c i hi);unfold gO gP;rw [if_neg (λc=>h c.2.2),if_pos ⟨b,a⟩,if_neg h];exact ⟨rfl,rfl⟩
theorem E_ (zs:zN) (ls:List Nat) (n:Nat) (h:∀i,i<n->ls.getD i 0<256 ^ (zs.getD i 0).toNat):Om.gK zs ls n= true:=(Om.kQ zs ls n).2 h
theorem mj (zs:zN) (ls:List Nat) (B:Nat) (a c:Option Addr) (n m cap cap':Nat) (w:World) (x:zs.length= n) (hm:ls.length= m) (hn:n<=1099511627776) (ad:m<=1099511627776) (Y:B<=w.heap.size) (v:Row w B a n (bz zs)) (K:Row w B c m (gN ls)) (hu:∀i,ls.getD i 0<18446744073709551616): zF 148 #[.slice a n cap, .slice c m cap'] w λe w'=>e= zV (.string (Om.B (gO zs ls))) (zI (gP zs ls))/\zB w w':=by
 by_cases z:n= m;·
  subst z;have N:(((n:Nat):Int) != (n:Int))= false:=by simp
  cases hok:Om.eB zs with
   | false => obtain ⟨g,h⟩:=E8 zs ls hok;rw [g,h];have t:=sL zs B a n cap w x (by omega) v;rw [hok]at t;have X:=hT t;clear g h hok x hm v K hu t;go_enter func148,ntmps148;go_wp2_with fail;refine zh X.out ?_;go_wp2;go_ret2;exact ⟨rfl,Below.refl _ _⟩
   | true =>
   have t:=sL zs B a n cap w x (by omega) v;rw [hok]at t;have X:=hT t;have j:=hT hok;have U:=hT x;have H:=hT hm;have HR:=hT v;have HQ:=hT K;clear hok x hm v K hu t;go_enter func148,ntmps148;go_wp2_with fail;refine zh X.out ?_;go_wp2;go_loopw [23] (λi wr=>∃k:Nat,k<=n/\i= zI k/\gw w.heap.size w.heap.size (Om.ct zs ls k) wr/\zB w wr/\Hid (∀i,i<k->ls.getD i 0<256 ^ (zs.getD i 0).toNat)) (λi _=>n - (CS i).toNat);case atStart=>exact ⟨0,yb _,rfl,gw.new w _ (nm _),zA,hT (λi hi=>absurd hi (by omega))⟩
   case round=>
    obtain ⟨k,hk,rfl,E,o,q⟩:=hrel;have J:=hT E;have r:=hT o;clear E o;by_cases s:k<n;·
     obtain ⟨ab,ao,rfl,R,G⟩:=HR.out (by omega);obtain ⟨cb,Z,rfl,Q,D⟩:=HQ.out (by omega);obtain ⟨d,hd⟩:∃d:Nat,zs.getD k 0= (d:Int):=XR (Om.lQ zs j.out k).1;have C:d<=8:=by have:=(Om.lQ zs j.out k).2;omega
     obtain ⟨y,M⟩:=eX1 (ls.getD k 0);have O:wr.cell? ⟨ab,ao+k,none⟩= some (zI d):=by rw [r.out.cell (p:=⟨ab,ao+k,none⟩) (ti R Y),G k s,bz,hd]
     have P:wr.cell? ⟨cb,Z+k,none⟩= some (.int wb y):=by rw [r.out.cell (p:=⟨cb,Z+k,none⟩) (ti Q Y),D k s,gN,M]
     have S:=hT M;have W:=hT hd;clear G D M hd;by_cases A:y<256 ^ d;·
      have L:=hT A;clear A;go_wp2_with fail;refine zg (lT y d _ C L.out) λw1 hb1=>?_;have l:=hT hb1;clear hb1 O P;go_wp2_with fail;refine (fC w.heap.size w.heap.size (Om.ct zs ls k) (Om.low y d) w1 (J.out.below l.out) (by rw [Om.g_,Om.kb zs ls k (by rw [U.out];exact hk)];have:=Om.Dn zs j.out k;omega) (Nat.le_trans r.out.size l.out.size)).mono ?_;rintro e w2 ⟨rfl,b,F⟩;have f:=(r.out.trans (l.out.mono r.out.size)).trans F;rw [show Om.ct zs ls k ++ Om.low y d= Om.ct zs ls (k+1) from by rw [Om.nu,S.out,W.out,GH]]at b;have I:=hT b;have u:=hT f;clear b f F;go_wp2;go_roundw;case rel=>exact ⟨k+1,by omega,by go_num,I.out,u.out,hT (λi hi=>by
       by_cases e:i= k;· subst e;rw [<-S.out,W.out,GH];exact L.out
       ·exact q.out i (by omega))⟩
      case measure=>simp [CS];omega
     ·obtain ⟨g,h⟩:=E9 zs ls k (by rw [U.out,H.out]) j.out (by rw [H.out];exact s) (by rw [<-S.out,W.out,GH];exact A);have T:=hT g;have V:=hT h;have L:=hT A;clear A g h;go_wp2_with fail;refine zh (Ey y d _ C L.out) ?_;go_wp2;go_ret2;exact ⟨by rw [T.out,V.out];rfl,r.out⟩
    ·obtain rfl:k= n:=by omega
     obtain ⟨g,h⟩:=nC zs ls (by rw [U.out,H.out]) j.out (E_ zs ls _ (by rw [H.out];exact q.out));have T:=hT g;have V:=hT h;clear g h;go_wp2_with fail;refine zg (E3 w.heap.size w.heap.size (Om.ct zs ls k) wr J.out r.out.size) λw1 hb1=>?_;have l:=hT hb1;clear hb1;go_wp2;go_ret2;exact ⟨by rw [T.out,V.out,H.out];rfl,r.out.trans l.out⟩
 ·have N:((n:Int) != (m:Int)):=by rw [bne_iff_ne];omega
  obtain ⟨g,h⟩:=E7 zs ls (by omega);rw [g,h];clear g h x hm v K hu z;go_enter func148,ntmps148;go_wp2;go_ret2;exact ⟨rfl,Below.refl _ _⟩
end
section
open Go.RowKit
def dB (l:zL):Bool:=l.all (· == 0)
theorem Fa (l:zL) (j:Nat) (a:j<l.length) (h:l[j]≠0):dB l= false:=by
 cases hc:dB l;· rfl
 ·exact absurd (by simpa using TX.1 hc _ (List.getElem_mem a)) h
theorem Fb (l:zL) (h:∀j (a:j<l.length),l[j]= 0):dB l= true:=by unfold dB;rw [TX];intro x b;obtain ⟨j,a,rfl⟩:=XQ.1 b;simpa using h j a
theorem nD (l:zL) (w:World) (g:l.length<=4611686018427387904): zF 202 #[.string (Om.B l)] w (zQ (.bool (dB l)) w):=by
 have o:(Om.B l).size<=4611686018427387904:=g;go_enter func202,ntmps202;go_wp2;go_loop [6] (λi=>∃k:Nat,k<=(Om.B l).size/\i= zI k/\Hid (∀j (hj:j<l.length),j<k->l[j]= 0)) (λi=>(Om.B l).size - (CS i).toNat);case atStart=>exact ⟨0,yb _,rfl,hT (λj _ hj=>absurd hj (by omega))⟩
 case round=>
  obtain ⟨k,hk,rfl,a⟩:=hrel;by_cases hlt:k< (Om.B l).size;·
   by_cases d:l[k]'hlt= 0;·
    have h1:((((Om.B l)[k]).toNat:Int) != 0)= false:=by rw [show (Om.B l)[k]= l[k]'hlt from rfl,d];rfl
    have h:=hT d;clear d;go_wp2;go_round;case rel=>exact ⟨k+1,by omega,by go_num,hT (λj hj hjk=>by
     by_cases e:j= k;· subst e;exact h.out
     ·exact a.out j hj (by omega))⟩
    case measure=>simp [CS];omega
   ·have h1:((((Om.B l)[k]).toNat:Int) != 0):=by rw [show (Om.B l)[k]= l[k]'hlt from rfl,bne_iff_ne];intro c;apply d;apply UInt8.toNat_inj.1;rw [show (0:UInt8).toNat= 0 from rfl];omega
    have f:=Fa l k hlt d;have n:=hT f;clear d f;go_wp2;go_ret;exact ⟨by rw [n.out];rfl,rfl⟩
  ·have b:=Fb l (λj hj=>a.out j hj (ti hj (Nat.not_lt.1 hlt)));have m:=hT b;clear b a;obtain rfl:k= (Om.B l).size:=by omega
   go_wp2;go_ret;exact ⟨by rw [m.out];rfl,rfl⟩
end
section
open Go.RowKit
theorem Jz (l:zL) (d:Nat) (w:World) (h:l.length<d) (hd:d<=8): zF 272 #[.string (Om.B l),zI d] w λe w'=>e= .panicked [{v:= .iface 268 (.agg #[]),recovered:=false}]/\w= w':=by
 have a:(Om.B l).size<d:=by rw [Om.aG];exact h
 go_enter func272,ntmps272;go_wp2;exact ⟨rfl,rfl,rfl⟩
theorem JA (a b j:Nat) (e:a<256 ^ j) (k:b<256) (d:j<=7):bits .or wb (a:Int) (wb.wrap (wb.wrap (b:Int) *2 ^ (8*j)))= ((a+256 ^ j*b:Nat):Int):=by
 have c:(256:Nat) ^ j= 2 ^ (8*j):=by rw [Nat.pow_mul]
 have f:256 ^ j<=256 ^ 7:=Nat.pow_le_pow_right (by omega) d;have hle:256 ^ j*b<=256 ^ 7*255:=Nat.mul_le_mul f (by omega);have w1:wb.wrap (b:Int)= (b:Int):=T6 _ (by omega);have g:(b:Int) *2 ^ (8*j)= ((256 ^ j*b:Nat):Int):=by rw [c,Int.natCast_mul,Int.natCast_pow,Int.mul_comm];rfl
 have w2:wb.wrap ((256 ^ j*b:Nat):Int)= ((256 ^ j*b:Nat):Int):=T6 _ (by omega);rw [w1,g,w2,u64_or_nat _ _ (by omega) (by omega)];congr 1;have h:=Nat.shiftLeft_add_eq_or_of_lt (a:=b) (b:=a) (i:=8*j) (by rw [<-c];exact e);rw [Nat.shiftLeft_eq,<-c]at h;rw [Nat.or_comm,Nat.mul_comm,<-h];omega
theorem JB (l:zL) (j:Nat) (h:j< (Om.B l).size):(Om.B l)[j]= l[j]'h:=rfl
theorem JC (l:zL) (d:Nat) (w:World) (h:d<=l.length) (hd:d<=8): zF 272 #[.string (Om.B l),zI d] w λe w'=>e= zV (.int wb (Om.num (l.take d):Int)) (.string (Om.B (l.drop d)))/\∃m,w'= w.drewN m:=by
 have k:¬(Om.B l).size<d:=by rw [Om.aG];omega
 go_enter func272,ntmps272;go_wp2;go_loop [4,14] (λn i=>∃j:Nat,j<=d/\i= zI j/\n= .int wb (Om.num (l.take j):Int)) (λ_ i=>d - (CS i).toNat);case atStart=>exact ⟨0,yb _,rfl,rfl⟩
 case round=>
  obtain ⟨j,o,rfl,rfl⟩:=hrel;by_cases f:j<d;·
   have g:j< (Om.B l).size:=by rw [Om.aG];omega
   have a:Om.num (l.take (j+1))= Om.num (l.take j) +256 ^ j* ((Om.B l)[j]).toNat:=by rw [TD (by omega),Om.Dh,E4,UQ (by omega),JB];rfl
   have b:=JA (Om.num (l.take j)) ((Om.B l)[j]).toNat j (by have:=Om.nr (l.take j);rw [E4,UQ (by omega)]at this;exact this) (UInt8.toNat_lt _) (by omega);rw [<-a]at b;have c:=hT b;clear b a;go_wp2;go_round;case rel=>exact ⟨j+1,by omega,by go_num,by rw [c.out]⟩
   case measure=>simp [CS];omega
  ·obtain rfl:j= d:=by omega
   go_wp2;go_quiet (fail);go_wp2;go_ret2;exact ⟨by rw [<-Om.fx l,<-Om.j_,Om.fx];rfl,_,rfl⟩
def ag (l:zL) (zs:zN) (n k:Nat):List Value:=(List.range k).map (λi=>Value.int wb (Om.at_ l zs i:Int)) ++ vw (n - k) (.int wb 0)
theorem JD (l:zL) (zs:zN) (n k:Nat) (h:k<n):(ag l zs n k)[k]?= some (.int wb 0):=by unfold ag;rw [TY (by simp),TR,if_pos (by simp;omega)]
theorem sQ (l:zL) (zs:zN) (n k:Nat) (h:k<n):(ag l zs n k).set k (.int wb (Om.at_ l zs k:Int))= ag l zs n (k+1):=by
 unfold ag;obtain ⟨m,hm⟩:∃m,n - k= m+1:=⟨n - k - 1,by omega⟩;have a:n - (k+1)= m:=by omega
 rw [hm,a,UN _ _ (by simp),List.range_succ,List.map_append,VA];simp
theorem JE (l:zL) (zs:zN) (n i:Nat) (h:i<n):(ag l zs n n)[i]?= some (.int wb (Om.at_ l zs i:Int)):=by unfold ag;rw [List.getElem?_append_left (by simpa using h)];simp [h]
def JF (l:zL) (zs:zN) (n:Nat) (w:World) (e:Ending) (w':World):Prop:= (Om.off zs n<=l.length/\e= zV (zS w.heap.size n n) (.string (Om.B (l.drop (Om.off zs n))))/\w'.ownsRow w.heap.size 197 1 (zS w.heap.size n n) n (ag l zs n n)/\zB w w')\/ (¬Om.off zs n<=l.length/\e= .panicked [{v:= .iface 268 (.agg #[]),recovered:=false}]/\zB w w')
theorem kq (l:zL) (zs:zN) (B:Nat) (a:Option Addr) (n cap:Nat) (w:World) (N:zs.length= n) (hn:n<=1099511627776) (X:B<=w.heap.size) (M:Row w B a n (bz zs)) (v:Om.eB zs): zF 237 #[.string (Om.B l), .slice a n cap] w (JF l zs n w):=by
 obtain ⟨U,hi,L,K,J⟩:=info_parts wU;have P:=sL zs B a n cap w N (by omega) M;rw [v]at P;have HC:=hT P;have E:=hT v;have HL:=hT N;have Z:=hT M;clear v N M P;go_enter func237,ntmps237;go_wp2_with fail;refine zh HC.out ?_;go_wp2_with (refine wpList_make_full _ rfl _ _ 240 rfl w.heap.size 197 U (.int wb 0) 1 underlying240 hi L K .i64 .i64 _ _ n rfl rfl rfl rfl ?c1 ?c2 ?c3 ?_);case c1=>rw [J];omega
 case c2=>unfold maxLen;omega
 case c3=>exact nm _
 intro w1 b f;have c:w1.ownsRow w.heap.size 197 1 (zS w.heap.size n n) n (ag l zs n 0):=by
  rw [toList_madeCells_one]at b;have e:ag l zs n 0= vw n (.int wb 0):=by simp [ag]
  rw [e];exact b
 have g:=zR.grown f (nm _) (λj hj=>by cases hj);clear b f;go_wp2;go_loopw [0,19] (λs i wr=>∃k:Nat,k<=n/\i= zI k/\s= .string (Om.B (l.drop (Om.off zs k)))/\Om.off zs k<=l.length/\wr.ownsRow w.heap.size 197 1 (zS w.heap.size n n) n (ag l zs n k)/\zB w wr) (λ_ i _=>n - (CS i).toNat);case atStart=>exact ⟨0,yb _,rfl,by rw [Om.vT];rfl,by rw [Om.vT];omega,c,g⟩
 case round=>
  obtain ⟨k,hk,rfl,rfl,o,b,q⟩:=hrel;have G:=hT b;have I:=hT q;have t:=hT o;clear c g b q o;by_cases h:k<n;·
   obtain ⟨T,S,rfl,Q,D⟩:=Z.out (by omega);obtain ⟨d,hd⟩:∃d:Nat,zs.getD k 0= (d:Int):=XR (Om.lQ zs E.out k).1;have A:d<=8:=by have:=(Om.lQ zs E.out k).2;omega
   have W:wr.cell? ⟨T,S+k,none⟩= some (zI d):=by rw [I.out.cell (p:=⟨T,S+k,none⟩) (ti Q X),D k h,bz,hd]
   have y:Om.off zs (k+1)= Om.off zs k+d:=by rw [Om.nt zs k (by rw [HL.out];exact h),hd,GH]
   have C:Om.at_ l zs k= Om.num ((l.drop (Om.off zs k)).take d):=by unfold Om.at_;rw [hd,GH]
   have x:=hT y;have R:=hT C;clear D hd y C;by_cases z:d<=(l.drop (Om.off zs k)).length;·
    have O:wr.cell? (zz w k)= some (.int wb 0):=by rw [G.out.cellAt k (by omega),JD l zs n k h]
    have V:=G.out.frozenAt k;have u:=G.out.stored k (.int wb (Om.at_ l zs k:Int));rw [sQ l zs n k h,R.out]at u;have Y:=hT u;have H:=hT z;clear u z;go_wp2_with fail;refine (JC (l.drop (Om.off zs k)) d _ H.out A).mono ?_;rintro e w2 ⟨rfl,m,rfl⟩;go_wp2;go_roundw;case rel=>
     refine ⟨k+1,by omega,by go_num,by rw [x.out],?_,Y.out.1,?_⟩;· have:=H.out;rw [IV]at this;have:=t.out;rw [x.out];omega
     ·exact fc (I.out.setCell (p:=(zz w k)) (nm _) _) m
    case measure=>simp [CS];omega
   ·have r:¬Om.off zs n<=l.length:=by have h1:=Om.Dl zs (k+1) n (by omega);have h2:=x.out;rw [IV]at z;omega
    have F:=hT r;have H:=hT z;clear r z;go_wp2_with fail;refine (Jz (l.drop (Om.off zs k)) d _ (by have:=H.out;omega) A).mono ?_;rintro e w2 ⟨rfl,rfl⟩;go_wp2;exact ⟨rfl, .inr ⟨F.out,rfl,I.out⟩⟩
  ·obtain rfl:k= n:=by omega
   go_wp2;go_ret2;exact .inl ⟨t.out,rfl,G.out,I.out⟩
end
section
open Go.RowKit
theorem yU (t:TypeId) (w:World) (h:t= 267\/t= 268):(Instr.typeAssert .nilIface 20 t true).run prog w= .ok (.tuple #[.agg #[], .bool false]) w:=by rcases h with rfl|rfl<;>kernel_rfl
theorem JG (p:Addr) (w:World): CallsD prog 236 #[xb (some p)] .returning w λe u' w'=> e= nf (.tuple #[])/\u'= .returning/\w'= w:=by have h1:=λw=>yU 267 w (.inl rfl);have a:=λw=>yU 268 w (.inr rfl);refine callsD_of_wpS func236 rfl λc₀ cs hu=>?_;apply wpS_seq;apply wpS_region;simp [wpOpsS,go_sem,recoverD,hu,ntmps236,Exit.thenS];rw [show (#[xb (some p)] ++ (Array.replicate 7 undef).setIfInBounds 0 .nilIface)= #[xb (some p), .nilIface,undef,undef,undef,undef,undef,undef]from rfl];refine wpS_of_wp ?_;go_wp2;cases c₀;simp_all [bodyPostS,results,results236]
theorem ub (l:zL) (zs:zN) (B:Nat) (a:Option Addr) (n cap:Nat) (w:World) (g:zs.length= n) (f:n<=1099511627776) (i:B<=w.heap.size) (c:Row w B a n (bz zs)) (b:Om.eB zs) (d:Om.off zs n<=l.length): zF 237 #[.string (Om.B l), .slice a n cap] w λe w'=>e= zV (zS w.heap.size n n) (.string (Om.B (l.drop (Om.off zs n))))/\w'.ownsRow w.heap.size 197 1 (zS w.heap.size n n) n (ag l zs n n)/\zB w w':= (kq l zs B a n cap w g f i c b).mono λe w' h=>by
 rcases h with h|h;· exact h.2
 ·exact absurd d h.1
theorem JH {w w1:World} (h:Below (w.heap.size+1) (w.alloc (hV #[zI 0] 38)) w1):w1.cell? (zz w 0)= some (zI 0)/\w1.frozen? (zz w 0)= false/\zB w w1:=by
 refine ⟨?_,?_,?_⟩;· rw [h.cell (p:=(zz w 0)) (by simp)];simp
 ·rw [h.frozen (p:=(zz w 0)) (by simp)];simp
 ·exact zA.trans (h.mono (by omega))
def yV (l:zL) (zs:zN) (n:Nat) (w:World) (e:Ending) (w':World):Prop:= ∃b:Nat,e= nf (.tuple #[zS b n n, .string (Om.B (l.drop (Om.off zs n))),zI 0])/\w.heap.size<=b/\b<w'.heap.size/\(∀i,i<n->w'.cell? (zD b i)= some (.int wb (Om.at_ l zs i:Int)))/\zB w w'
theorem qA (l:zL) (zs:zN) (B:Nat) (a:Option Addr) (n cap:Nat) (w:World) (q:zs.length= n) (x:n<=1099511627776) (z:B<=w.heap.size) (m:Row w B a n (bz zs)) (h:Om.eB zs) (o:Om.off zs n<=l.length): zF 201 #[.string (Om.B l), .slice a n cap] w (yV l zs n w):=by
 have r:=ub l zs B a n cap (w.alloc (hV #[zI 0] 38)) q x (by simp;omega) (m.below (zR.alloc z _)) h o;have D:=hT r;clear h q m r o;go_enter_defers func201,ntmps201;go_wp2_with fail;refine D.out.mono ?_;rintro e w1 ⟨rfl,d,s⟩;have j:Below (w.heap.size+1) (w.alloc (hV #[zI 0] 38)) w1:=by simpa [zB] using s
 have b:w1.ownsRow (w.heap.size+1) 197 1 (.slice (some ⟨w.heap.size+1,0,none⟩) n n) n (ag l zs n n):=by simpa using d
 have u:=hT b;obtain ⟨h1,G,t⟩:=JH j;have E:=hT t;clear s j d b t;go_wp2;refine leaves_cons (f:=236) (args:=#[zP w.heap.size]) (by simp) (by simp [go_sem]) ?_;refine (JG ⟨w.heap.size,0,none⟩ _).mono ?_;rintro e F v ⟨rfl,rfl,rfl⟩;have C:=E.out.setCell (p:=(zz w 0)) (nm _) (zI 0);have A:(w1.setCell ⟨w.heap.size,0,none⟩ (zI 0)).cell? (zz w 0)= some (zI 0):=World.cell?_setCell_same w1 _ _ h1;simp [Leaves,settle,results,results201,go_sem,A];refine ⟨w.heap.size+1,rfl,by omega,?_,λi hi=>?_,C⟩;·
  rcases u.out.2 with ⟨k,_⟩|⟨g,c,cur,k,_,y,_⟩;· cases k
  ·injection k with ha;injection ha with ha;injection ha with ha;have:=(DN.1 y).1;rw [<-ha]at this;simpa using this
 ·rw [World.cell?_setCell_other w1 _ _ _ (by simp),u.out.cellAt i (by omega),JE l zs n i hi]
end
section
open Go.RowKit
def dU (B b:Nat) (l:zL) (w:World):Prop:=Lib.IsBuilderF 111 5 B b (KP l) w
def eO (b:Nat) (w w':World):Prop:=Lib.OthersKept 5 (some b) w w'
variable{b:Nat}{l:zL}{w:World}
theorem dU.of {B:Nat} (h:gw B b l w):dU B b l w:=Lib.IsBuilderF.of h
theorem dU.lt {B:Nat} (h:dU B b l w):b<w.heap.size:=by rcases h with ⟨_,v,h,_⟩|⟨_,v,h,_⟩<;>exact (DN.1 h).1
theorem dU.below {B:Nat} {w':World} (h:dU B b l w) (a:zB w w'):dU B b l w':=by
 have c:=h.lt;have g:w.grownBy w' none:=⟨a.os,a.tape,a.output,a.size,λi hi _=>a.block i hi⟩;rcases h with ⟨h1,v,f,e,d⟩|⟨h1,v,f,e,d⟩;· exact .inl ⟨h1,v,(a.block b c).trans f,e.kept g (by cases v.ownBlock<;>simp),d⟩
 ·exact .inr ⟨h1,v,(a.block b c).trans f,e.kept g (by cases v.ownBlock<;>simp),d⟩
theorem My (B b:Nat) (l m:zL) (w:World) (h:dU B b l w) (c:l.length+m.length<=140737488355328) (g:B<=w.heap.size): zF 57 #[zP b, .string (Om.B m)] w λe w'=>e= zV (zI m.length) .nilIface/\dU B b (l ++ m) w'/\Below B w w'/\eO b w w':=by refine (Any.Builder_WriteString_k xe pI B b (KP l) (Om.B m) w h (by rw [Uy];exact c) g).mono ?_;rintro e w' ⟨d,f,hw,a⟩;refine ⟨d, .inr ?_,hw,a⟩;rw [VU];exact f
theorem Mz (B b:Nat) (l:zL) (w:World) (h:dU B b l w) (hB:B<=w.heap.size): zF 59 #[zP b] w λe w'=>e= nf (.string (Om.B l))/\Below B w w'/\eO b w w':= (Any.Builder_String_any_k xg pI B b l w h hB).mono λe w' ⟨h1,_,h2,h3⟩=>⟨h1,h2,h3⟩
theorem eO.refl (b:Nat) (w:World):eO b w w:=Lib.OthersKept.refl _ _ _
theorem eO.trans {u v:World} (h:eO b u v) (k:eO b v w):eO b u w:=Lib.OthersKept.trans h k
theorem eO.ax {w':World} (hb:zB w w'):eO b w w':=λk o h _ _=>(hb.block k (DN.1 h).1).trans h
theorem eO.row {k:Nat} {w':World} (h:eO b w w') {cs:Array Value} {t:TypeId} {fr:Nat×Nat} (hk:w.heap[k]?= some (hV cs t fr)) (a:k≠b) (d:t≠5):w'.heap[k]?= some (hV cs t fr):= h k _ hk (λe=>a (by injection e)) λc fz e=>by injection e with _ e _;exact d e
theorem dU.other {B j:Nat} {w':World} (h:dU B b l w) (d:ae.Fr (λk=>k= j) w w') {cs:Array Value} {t:TypeId} {fr:Nat×Nat} (m:w.heap[j]?= some (hV cs t fr)) (i:t≠5) (n:b≠j):dU B b l w':=by
 have key:∀p,Lib.BuilderAtF 111 5 B b p (KP l) w->Lib.BuilderAtF 111 5 B b p (KP l) w':=λp k=>by
  obtain ⟨h1,v,f,⟨q,c⟩,o⟩:=k;refine ⟨h1,v,(d.block b (DN.1 f).1 n).trans f,⟨q,?_⟩,o⟩;rcases c with c|⟨g,cap,cur,s,x,u,a,r⟩;· exact .inl c
  ·refine .inr ⟨g,cap,cur,s,x,u,(d.block g (DN.1 a).1 λe=>?_).trans a,r⟩;rw [e,m]at a;injection a with a;injection a with _ a _;exact i a
 rcases h with h|h;· exact .inl (key _ h)
 ·exact .inr (key _ h)
end
end Go.Proofs.YtchihokmgmchcaaGreat
