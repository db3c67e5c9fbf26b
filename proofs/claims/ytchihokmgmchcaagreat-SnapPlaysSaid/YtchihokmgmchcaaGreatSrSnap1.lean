/- Snap1, of the proof -/
import Derived.Test.YtchihokmgmchcaaGreatSrSnp1
import Derived.Test.YtchihokmgmchcaaGreatSq0K
set_option linter.unusedVariables false
set_option maxRecDepth 100000
set_option maxHeartbeats 4000000
namespace Go.Proofs.YtchihokmgmchcaaGreat
open Go.Proofs.Tryz
open Go.Lib renaming hid->hT
section
namespace Sl
open Go.RowKit
variable{w:World}{la:Option Addr}{xs:List (Ac×Al)}
theorem S8 {W:World} (h:pd w la xs) (l:zB w W):pd W la xs:=λhn=>by obtain ⟨b,off,e,g,f⟩:=h hn;have r:=l.size;refine ⟨b,off,e,by omega,λi x hi=>?_⟩;obtain ⟨o,a⟩:=f i x hi;refine ⟨λj v hv=>(l.cell (p:=⟨b,off+i*6+j,none⟩) g).trans (o j v hv),a.k,a.id,a.at_,a.n,a.d,a.kp,λh0=>?_⟩;obtain ⟨b2,c,q,s,m,hk⟩:=a.kr h0;exact ⟨b2,c,q,by omega,by omega,λi hi=>(l.cell (p:=⟨b2,c+i,none⟩) m).trans (hk i hi)⟩
theorem S9 {x:Ac} {y:Al} (h:pb w x y) (hd:x.d.length<=3000):vG x:=by obtain ⟨a1,a2⟩:=ae.vF h.id;obtain ⟨b1,b2⟩:=ae.vF h.at_;obtain ⟨c1,c2⟩:=ae.vF h.n;exact ⟨h.k,⟨by omega,by omega⟩,⟨by omega,by omega⟩,⟨by omega,by omega⟩,hd⟩
theorem S_ (a n g:Int) (b:zL) (N lc:Nat) (hN:N= xs.length) (E:vH w b la xs): zF 3 #[.agg #[zI a,zI n,zI g, .string (Om.B b), .slice la N lc]] w (zJ (.bool true) w):=by
 obtain ⟨P,ab,c⟩:=E;obtain ⟨U,s⟩:=eX2 (w.alloc (.cells #[zI a,zI n,zI g, .string (Om.B b), .slice la N lc] 26));have Z:=heap_alloc_new w (.cells #[zI a,zI n,zI g, .string (Om.B b), .slice la N lc] 26);have T:zB w U:=by rw [<-s];exact zA
 rw [s]at Z;have BX:Hid (∀W,zB U W->W.cell? (zz w 0)= some (zI a)/\W.cell? (zz w 1)= some (zI n)/\W.cell? (zz w 2)= some (zI g)/\W.cell? (zz w 3)= some (.string (Om.B b))/\W.cell? (zz w 4)= some (.slice la N lc)):=hT λW hW=>by have r1:=(hW.block _ (ae.lt_of_heap Z)).trans Z;refine ⟨?_,?_,?_,?_,?_⟩<;>(rw [cell_of_row _ _ _ _ _ _ r1];rfl)
 have HB:=hT T;have HN:=hT hN;have AT:Hid (∀W,zB U W->∀k x,xs[k]?= some x->∃q off,la= some ⟨q,off,none⟩/\(W.cell? ⟨q,off+k*6,none⟩= some (.int .u8 x.1.k)/\W.cell? ⟨q,off+k*6+1,none⟩= some (zI x.1.id)/\W.cell? ⟨q,off+k*6+2,none⟩= some (zI x.1.at_)/\W.cell? ⟨q,off+k*6+3,none⟩= some (zI x.1.n)/\ W.cell? ⟨q,off+k*6+4,none⟩= some (.string (Om.B x.1.d))/\W.cell? ⟨q,off+k*6+5,none⟩= some (.slice x.2.ka x.2.kp.length x.2.kc))/\pb w x.1 x.2):=hT λW hW k x m=>by obtain ⟨q,off,e,M,R⟩:=c (λe=>by rw [e]at m;simp at m);obtain ⟨E,o⟩:=R k x m;have af:=T.trans (hW.mono T.size);have J:∀j v,w.cell? (zD q j)= some v->W.cell? (zD q j)= some v:=λj v hv=>(af.cell (p:=(zD q j)) M).trans hv;exact ⟨q,off,e,⟨J _ _ (E 0 _ rfl),J _ _ (E 1 _ rfl),J _ _ (E 2 _ rfl),J _ _ (E 3 _ rfl),J _ _ (E 4 _ rfl),J _ _ (E 5 _ rfl)⟩,o⟩
 have FT:=hT (qO (w:=U) (la:=la) (xs:=xs) a n g b N lc hN (by omega) P (S8 c T));have AL:=hT (λw1=>S7 w1);have BG:Hid (∀W,Um.aj a n g= true->a<=300->b.length<=19200->zF 6 #[.agg #[zI a,zI n,zI g, .string (Om.B b), .slice la N lc]] W λr w'=>∃p dp qp mp D,r= .returned (zP p)/\Wm W.heap.size (λ_=>False) w' p dp qp mp D D/\zB W w'):=hT λW hu ha hl=>by have hs:=Um.cT hu;obtain ⟨A,rfl⟩:∃A:Nat,a= (A:Int):=⟨a.toNat,by omega⟩;obtain ⟨N2,rfl⟩:∃N2:Nat,n= (N2:Int):=⟨n.toNat,by omega⟩;obtain ⟨G,rfl⟩:∃G:Nat,g= (G:Int):=⟨g.toNat,by omega⟩;exact R4 A N2 G b la N lc W hu (by omega) hl
 have AC:Hid (∀(n1:Nat) (W:World) (p dp qp mp:Nat) (D:Sn.En) (x:Ac) (y:Al),Wm n1 (λ_=>False) W p dp qp mp D D->vG x->zF 7 #[zP p, .agg #[.int .u8 x.k,zI x.id,zI x.at_,zI x.n, .string (Om.B x.d), .slice y.ka y.kp.length y.kc]] W λr w'=>r= .returned (.bool true)/\(∃q2,Wm n1 (λ_=>False) w' p dp q2 mp (fQ D x) (fQ D x))/\Below n1 W w'):=hT λn1 W p dp qp mp D x y h m=>Si h x m _ ⟨_,_,_,rfl⟩;have SM:=hT (λ(n1:Nat) (W:World) (p dp qp mp:Nat) (D:Sn.En) (h:Wm n1 (λ_=>False) W p dp qp mp D D)=>Rq h);obtain ⟨S,hS⟩:=eX1 (Om.B b);rw [<-hS]at s FT BG⊢BX;obtain ⟨c0,c1,c2,c3,c4⟩:=BX.out U zR;clear c Z T hN hS P ab;go_enter func3,ntmps3;go_upto_region 2 with fail;clear s;refine FT.out.mono ?_;rintro e w1 ⟨res,rfl,Q,C⟩;have H1:=hT Q;clear Q FT;obtain ⟨c0,c1,c2,c3,c4⟩:=BX.out w1 H1.out;cases res with
  | false => go_wp2_with fail;refine zg (AL.out w1) λw2 l=>?_;have F:=hT (HB.out.trans ((zH H1 l).mono HB.out.size));clear l;go_wp2_with fail;go_ret;exact ⟨rfl,F.out⟩
  | true =>
  obtain ⟨hu,ha,hl,L,K⟩:=C rfl;have X:=hT (BG.out w1 hu ha hl);have ao:=hT K;have bf:N<=30:=by have:=HN.out;omega
  clear C hu ha hl L K BG;go_upto_region 5 with fail;refine X.out.mono ?_;rintro e w2 ⟨p,dp,qp,mp,D,rfl,hm,l⟩;have ba:=hT hm;have H2:=hT l;clear hm l X;go_wp2_with fail;go_loopw [5] (λi wr=>∃(k:Nat) (q:Nat) (D:Sn.En),i= zI k/\k<=N/\Hid (Wm w1.heap.size (λ_=>False) wr p dp q mp D D)/\Hid (zB w1 wr)) (λi _=>N - (Lib.intOf i).toNat);case atStart=>exact ⟨0,qp,D,rfl,Nat.zero_le _,ba,H2⟩
  case round=>
   obtain ⟨k,q,D,rfl,hk,hm,O⟩:=hrel;have I:=hT (H1.out.trans (O.out.mono H1.out.size));obtain ⟨e0,e1,e2,e3,e4⟩:=BX.out wr I.out;by_cases M:k<N;·
    have b1:(0:Int)<=(k:Int):=by omega
    have b2:(k:Int) < (N:Int):=by omega
    have bg:IntKind.i64.wrap ((k:Int) +1)= ((k+1:Nat):Int):=by rw [IntWalk.i64_in _ (by omega)];rfl
    obtain ⟨x,m⟩:∃x,xs[k]?= some x:=⟨xs[k]'(by have:=HN.out;omega),List.getElem?_eq_getElem _⟩;obtain ⟨t,off,ad,⟨g0,g1,g2,g3,g4,g5⟩,o⟩:=AT.out wr I.out k x m;subst ad;have Y:=hT (AC.out _ wr p dp q mp D x.1 x.2 hm.out (S9 o (ao.out x (List.mem_of_getElem? m))));clear m o hm;go_upto_region 11 with fail;refine Y.out.mono ?_;rintro e w3 ⟨rfl,⟨q2,H⟩,f⟩;have V:=hT H;have u:=hT (SM.out _ _ _ _ _ _ _ H);have z:=hT (O.out.trans f);clear H f Y;go_wp2_with fail;refine zg u.out λw4 hb4=>?_;have aw:=hT (V.out.below hb4);have bb:=zT z hb4;clear hb4 u V z;go_wp2_with fail;go_roundw;case rel=>exact ⟨k+1,q2,_,rfl,by omega,aw,bb⟩
    case measure=>simp [Lib.intOf];omega
   ·obtain rfl:k= N:=by omega
    go_wp2_with fail;refine zg (AL.out wr) λw3 f=>?_;have u:=hT (SM.out _ _ _ _ _ _ _ (hm.out.below f));have z:=zT I f;clear f;go_wp2_with fail;refine zg u.out λw4 hb4=>?_;have F:=hT (HB.out.trans ((zH z hb4).mono HB.out.size));clear hb4;go_wp2_with fail;go_ret;exact ⟨rfl,F.out⟩
end Sl
end
end Go.Proofs.YtchihokmgmchcaaGreat
