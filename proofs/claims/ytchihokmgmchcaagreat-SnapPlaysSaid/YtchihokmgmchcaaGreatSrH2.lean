/- H2, of the proof -/
import Derived.Test.YtchihokmgmchcaaGreatSrH1
import Derived.Test.YtchihokmgmchcaaGreatSq0K
set_option linter.unusedVariables false
set_option maxRecDepth 100000
set_option maxHeartbeats 4000000
namespace Go.Proofs.YtchihokmgmchcaaGreat
open Go.Proofs.Tryz
open List renaming getElem?_drop->VJ,getElem?_eq_none->Tv,getElem?_map->RI,getElem?_take->TQ,length_drop->IV,length_map->PN,length_take->E4
open Go.Obj renaming cells->hV
open Go.Lib renaming hid->hT
open Go.IntWalk renaming i64_in->rr
open Go.Act renaming eval->SB,put->OW
section
namespace Tb
open Go.RowKit ae Go.Maps
def od (m:zN) (i:Int):zN:=if 0<=i/\i< (a_ m.length:Int) then ar m i.toNat else []
def oe (m:zN) (i:Int):Int:=if 0<=i/\i< (a_ m.length:Int) then 0 else 2
variable{m:zN}
theorem tI {k:Nat} (h:k<a_ m.length):od m (k:Int)= ar m k:=by unfold od;rw [if_pos ⟨by omega,by omega⟩,Int.toNat_natCast]
theorem tJ {k:Nat} (h:k<a_ m.length):oe m (k:Int)= 0:=by unfold oe;rw [if_pos ⟨by omega,by omega⟩]
theorem Ik (c:zN) (k K:Nat) (d:K= 13*k):splice (rp 13) 0 (ag ((c.drop K).take 13))= ag (ar c k):=by
 subst d;have e:((c.drop (13*k)).take 13).length<=13:=by simp;omega
 apply List.ext_getElem?;intro j;unfold splice rp;simp only [List.take_zero,List.nil_append,Nat.zero_add,Nat.sub_self,List.replicate_zero,List.append_nil];by_cases b:j<13;·
  rw [RI,sB _ _ _ b];by_cases a:j< ((c.drop (13*k)).take 13).length;·
   rw [List.getElem?_append_left (by simpa using a),RI,TQ,if_pos b,VJ];have:13*k+j<c.length:=by simp at a;omega
   rw [List.getElem?_eq_getElem this];rfl
  ·rw [List.getElem?_append_right (by simpa using Nat.le_of_not_lt a),VJ];have h1:(ag ((c.drop (13*k)).take 13)).length= ((c.drop (13*k)).take 13).length:=by simp
   rw [h1,show ((c.drop (13*k)).take 13).length+ (j - ((c.drop (13*k)).take 13).length)= j by omega,RI,List.getElem?_replicate,if_pos b];have:c[13*k+j]?= none:=Tv (by simp at a;omega);rw [this];rfl
 ·have f:(ag (ar c k)).length= 13:=by simp [mi]
  rw [Tv (l:=ag (ar c k)) (by omega)];refine Tv ?_;rw [List.length_append,IV,PN,PN,List.length_replicate];omega
variable{w:World}
theorem Il {g:Nat} {l:zN} (a:l.length= 13) (h:w.heap[g]?= some (hV (ag l).toArray 3 (0,0))):Ints w (zS g 13 13) l:=by show World.ownsRow _ _ _ _ _ _ _;rw [a];exact ⟨by simp [a], .inr ⟨g,13,_,rfl,Nat.zero_le _,h,Nat.le_refl _,by unfold maxLen;omega,by simp [a],by rw [List.take_of_length_le (by simp [a])]⟩⟩
theorem Im {o:Ob} (h:Tm w o m) (i:Int) (hi:¬(0<=i/\i< (a_ m.length:Int))): zF 250 #[zP o.p,zI i] w λe w'=>e= zV (.slice none 0 0) (zI 2)/\w= w':=by
 obtain ⟨n,c,g,a,rfl⟩:=h;rw [nv a.pr.len]at hi;obtain ⟨j,_,_,_,_⟩:=a.reads;have f:=hT (qj n w a.pr.aS);by_cases b:i<0;·
  have d1:decide (i<0):=by simpa using b
  clear a hi;go_enter func250,ntmps250;go_wp2;go_ret2;exact ⟨rfl,rfl⟩
 ·have d1:decide (i<0)= false:=by simpa using b
  obtain ⟨q,d⟩:=eX1 (a_ n);rw [<-d]at f hi;have d2:decide ((q:Int)<=i):=by simp;omega
  clear a hi d b;go_enter func250,ntmps250;go_wp2_with (go_at_call 245;refine zh f.out ?_);go_ret2;exact ⟨rfl,rfl⟩
structure Src (c:zN) (K:Nat) (w:World) (sp:Option Addr) (sl:Nat):Prop where
 len:((c.drop K).take 13).length= Nat.min sl 13
 cells:0< ((c.drop K).take 13).length->∃ad,sp= some ad/\∀j v,(ag ((c.drop K).take 13))[j]?= some v->w.cell? (ad.add j)= some v
theorem kY {o:Ob} (h:Tm w o m) (k:Nat) (hk:k<a_ m.length):
    zF 250 #[zP o.p,zI k] w fun e w'=>∃g,e= zV (zS g 13 13) (zI 0)∧w'.heap[g]?= some (hV (ag (ar m k)).toArray 3 (0,0))∧w.heap.size≤g∧zB w w':=by
  obtain ⟨n,c,g,A,rfl⟩:=h
  rw [nv A.pr.len]at hk
  rw [Eh]
  obtain ⟨h0,_,D,_,_⟩:=A.reads
  have N:=A.pr.aS
  have Z:=A.pr.len
  have Q:=hT (qj n w N)
  have bb:k≤1048576:=by unfold a_ at hk;omega
  obtain ⟨q,hq⟩:=eX1 (a_ n)
  rw [←hq]at Q hk
  have d1:decide ((k:Int) <0)= false:=by simp
  have d3:decide (q≤k)= false:=by simp;omega
  obtain ⟨K,hK⟩:=eX1 (13*k)
  have k2:(k:Int) *13= (K:Int):=by omega
  have bg:K≤13631488:=by omega
  have aw:IntKind.i64.wrap (K:Int)= (K:Int):=by rw [rr _ (by omega)]
  have u:=A.lt o.p (.inl rfl)
  have z:=A.chunks
  obtain ⟨ca,cap,F⟩:=fZ A.chunks
  rw [F]at z
  have C:∀b,ca= some b→b.block<w.heap.size:=fun b hb=>A.lt b.block (.inr (.inr (.inl (by rw [F,hb];rfl))))
  rw [F]at D
  obtain ⟨L,hL⟩:=eX1 c.length
  rw [←hL]at D Z
  have I:=hT hL
  have y:=hT z
  have H:=hT C
  have x:=hT (Ik c k K hK)
  have ONE:=hT (yd ((c.drop K).take 13))
  have V:Hid (zF 277 #[zS w.heap.size 1 1,zI 13] (w.alloc (hV #[zI (-1)] 3)) fun e w'=>e= .returned (.slice (some ⟨w.heap.size+1,0,none⟩) 13 13)∧w'.heap[w.heap.size+1]?= some (hV (rp 13).toArray 3 (0,0))∧zB w w'):=hT (by
    have:=pG (w:=w.alloc (hV #[zI (-1)] 3)) (b:=w.heap.size) (by simp) (by simp)
    unfold zB at this;rw [World.size_alloc]at this
    refine this.mono ?_
    rintro e w' ⟨rfl,h1,D⟩
    exact ⟨rfl,h1,(zA).trans (D.mono (by omega))⟩)
  clear A F z C hL hK hq hk
  by_cases ba:K<L
  · -- some ed there
    have d4:decide ((K:Int) < (L:Int)):=by simp;omega
    have d5:decide ((L:Int) < (K:Int))= false:=by simp;omega
    have U:(K:Int)≤(L:Int):=by omega
    have T:K≤L:=by omega
    obtain ⟨E,ab⟩:=tH y.out (by have:=I.out;omega)
    subst ab
    have bf:L≤cap:=by
      rcases y.out.2 with ⟨h1,_⟩|⟨b',P,cur,F,_,_,h1,_⟩
      · cases h1
      · injection F with _ _ F;have:=I.out;omega
    have S:¬cap= K:=by omega
    have R:Hid ((ag ((c.drop K).take 13)).length= Nat.min (L - K) 13):=hT (by rw [PN,E4,IV,←I.out];exact Nat.min_comm _ _)
    have B:min (K:Int) (L:Int)= (K:Int):=by omega
    have e7:¬L<K:=by omega
    have ad:Hid (∀w2,zB w w2→∀j v,(ag ((c.drop K).take 13))[j]?= some v→w2.cell? ((⟨E,K,none⟩:Addr).add j)= some v):=hT fun w2 hb j v hj=>by
      have M:=H.out ⟨E,0,none⟩ rfl
      rw [Addr.add_lit]
      refine (hb.cell (p:=⟨E,K+j,none⟩) M).trans ?_
      have Y:=(List.getElem?_eq_some_iff.1 hj).1
      rw [PN,E4,IV]at Y
      have hh:=y.out.cellAt (K+j) (by omega)
      rw [hh,←hj,RI,RI,TQ,if_pos (by omega),VJ]
    have J:Hid (∀w2,zB w w2→zB w w2.drew):=hT fun w2 h=>mD h
    have af:Hid (0+ (ag ((c.drop K).take 13)).length≤(rp 13).length):=hT (by rw [R.out,Nat.zero_add];show _≤13;exact Nat.min_le_right _ _)
    go_enter func250,ntmps250
    go_wp2_with (first
      | (go_at_call 245;refine zh Q.out ?_)
      | (go_at_call 277;refine V.out.mono ?_;rintro e w2 ⟨rfl,f,a⟩;have s:=hT f;have l:=hT a;have c2:=(a.cell (p:=(zD o.p 2)) u).trans D;clear f a))
    go_region_law (refine step_copy_splice rfl (.tmp 22) (.tmp 35) 59 59 rfl 3 underlying59 jH (some ⟨w.heap.size+1,0,none⟩) (some ⟨E,K,none⟩) 13 13 (L - K) (cap - K) (by simp [SB,OW]) (by simp [SB,OW]) (w.heap.size+1) 0 (rp 13) 3 s.out (ag ((c.drop K).take 13)) R.out (fun _=>⟨rfl,⟨E,K,none⟩,rfl,ad.out _ (J.out _ l.out)⟩) af.out ONE.out w.heap.size w (J.out _ l.out) (by omega) ?_;intro w3 d i;have r:=hT d.out;have t:=hT i;clear d i)
    all_goals
      go_wp2
      go_ret2
      exact ⟨w.heap.size+1,rfl,by rw [←x.out];exact r.out,by omega,t.out⟩
  · -- none stands there
    have d4:decide ((K:Int) < (L:Int))= false:=by simp;omega
    have d5:decide ((L:Int)≤(K:Int)):=by simp;omega
    have B:min (K:Int) (L:Int)= (L:Int):=by omega
    have X:(if L<K then (L:Int) else (K:Int))= (L:Int):=by split<;>omega
    have W:(if 0<K then (0:Int) else (K:Int))= 0:=by split<;>omega
    have ao:IntKind.i64.wrap (L:Int)= (L:Int):=by rw [rr _ (by omega)]
    have G:Hid (splice (rp 13) 0 []= ag (ar c k)):=hT (by
      have:=x.out
      rwa [List.drop_of_length_le (by have:=I.out;omega),List.take_nil]at this)
    have J:Hid (∀w2,zB w w2→zB w w2.drew):=hT fun w2 h=>mD h
    rcases y.out.2 with ⟨h1,h3⟩|⟨E,P,cur,h1,_,_,h3,_⟩
    · injection h1 with U T S
      rw [←I.out]at T
      subst U T S
      clear B x ONE H h3
      go_enter func250,ntmps250
      go_wp2_with (first
        | (go_at_call 245;refine zh Q.out ?_)
        | (go_at_call 277;refine V.out.mono ?_;rintro e w2 ⟨rfl,f,a⟩;have s:=hT f;have l:=hT a;have c2:=(a.cell (p:=(zD o.p 2)) u).trans D;clear f a))
      go_region_law (refine step_copy_splice rfl (.tmp 22) (.tmp 35) 59 59 rfl 3 underlying59 jH (some ⟨w.heap.size+1,0,none⟩) none 13 13 0 0 (by simp [SB,OW]) (by simp [SB,OW]) (w.heap.size+1) 0 (rp 13) 3 s.out [] (by simp) (fun h=>absurd h (by simp)) (by simp) (by simp) w.heap.size w (J.out _ l.out) (by omega) ?_;intro w3 d i;have r:=hT d.out;have t:=hT i;clear d i)
      all_goals
        go_wp2
        go_ret2
        exact ⟨w.heap.size+1,rfl,by rw [←G.out];exact r.out,by omega,t.out⟩
    · injection h1 with U T S
      subst U S
      rw [←I.out]at h3
      clear x ONE H
      by_cases O:cap= L
      · subst O
        go_enter func250,ntmps250
        go_wp2_with (first
          | (go_at_call 245;refine zh Q.out ?_)
          | (go_at_call 277;refine V.out.mono ?_;rintro e w2 ⟨rfl,f,a⟩;have s:=hT f;have l:=hT a;have c2:=(a.cell (p:=(zD o.p 2)) u).trans D;clear f a))
        go_region_law (refine step_copy_splice rfl (.tmp 22) (.tmp 35) 59 59 rfl 3 underlying59 jH (some ⟨w.heap.size+1,0,none⟩) (some ⟨E,0,none⟩) 13 13 0 0 (by simp [SB,OW]) (by simp [SB,OW]) (w.heap.size+1) 0 (rp 13) 3 s.out [] (by simp) (fun h=>absurd h (by simp)) (by simp) (by simp) w.heap.size w (J.out _ l.out) (by omega) ?_;intro w3 d i;have r:=hT d.out;have t:=hT i;clear d i)
        all_goals
          go_wp2
          go_ret2
          exact ⟨w.heap.size+1,rfl,by rw [←G.out];exact r.out,by omega,t.out⟩
      · go_enter func250,ntmps250
        go_wp2_with (first
          | (go_at_call 245;refine zh Q.out ?_)
          | (go_at_call 277;refine V.out.mono ?_;rintro e w2 ⟨rfl,f,a⟩;have s:=hT f;have l:=hT a;have c2:=(a.cell (p:=(zD o.p 2)) u).trans D;clear f a))
        go_region_law (refine step_copy_splice rfl (.tmp 22) (.tmp 35) 59 59 rfl 3 underlying59 jH (some ⟨w.heap.size+1,0,none⟩) (some ⟨E,L,none⟩) 13 13 0 (cap - L) (by simp [SB,OW]) (by simp [SB,OW]) (w.heap.size+1) 0 (rp 13) 3 s.out [] (by simp) (fun h=>absurd h (by simp)) (by simp) (by simp) w.heap.size w (J.out _ l.out) (by omega) ?_;intro w3 d i;have r:=hT d.out;have t:=hT i;clear d i)
        all_goals
          go_wp2
          go_ret2
          exact ⟨w.heap.size+1,rfl,by rw [←G.out];exact r.out,by omega,t.out⟩
end Tb
end
end Go.Proofs.YtchihokmgmchcaaGreat
