/- C1, of the proof -/
import Derived.Test.YtchihokmgmchcaaGreatSrM1
import Derived.Test.YtchihokmgmchcaaGreatSq0K
import Derived.Test.YtchihokmgmchcaaGreatProg
import Derived.Lib.Hide
import Derived.BigQuiet
import Derived.StillTailTactics
import Derived.Deep.RegionHeld3
import Derived.WalkSpells
import Derived.WalkLawsBesides
set_option linter.unusedVariables false
set_option maxRecDepth 100000
set_option maxHeartbeats 4000000
namespace Go.Proofs.YtchihokmgmchcaaGreat
open Go.Proofs.Tryz
open Go.Lib renaming hid->hT
open Nat renaming div_le_self->UI
open Int renaming natCast_emod->Xq
section
namespace Geo
open Go.RowKit
theorem kO (w:World) (o c:Int):(w.alloc (zE o c 103)).cell? (zz w 0)= some (zI o)/\(w.alloc (zE o c 103)).cell? (zz w 1)= some (zI c):=by
 have h:(w.alloc (zE o c 103)).heap[w.heap.size]?= some (.cells #[zI o,zI c] 103 (0,0)):=by show (w.heap.push _)[w.heap.size]?= _;rw [Array.getElem?_push_size]
 exact ⟨zW h,zW h⟩
theorem kP (o c:Int) (w:World):zF 143 #[zM o c] w (zJ (.bool (Em.aM o c)) w):=by
 have d:zB w (w.alloc (zE o c 103)):=zA;by_cases h1:1<=o;·
  by_cases e:o<=1048576;·
   by_cases f:1<=c;·
    have a:Em.aM o c= decide (c<=128):=by unfold Em.aM;simp [h1,e,f]
    have b:=hT a;clear a;go_enter func143,ntmps143;go_wp2_with fail;go_ret;exact ⟨by rw [b.out];rfl,d⟩
   ·have a:Em.aM o c= false:=by unfold Em.aM;simp [h1,e,f]
    have b:=hT a;clear a;go_enter func143,ntmps143;go_wp2_with fail;go_ret;exact ⟨by rw [b.out];rfl,d⟩
  ·have a:Em.aM o c= false:=by unfold Em.aM;simp [h1,e]
   have b:=hT a;clear a;go_enter func143,ntmps143;go_wp2_with fail;go_ret;exact ⟨by rw [b.out];rfl,d⟩
 ·have a:Em.aM o c= false:=by unfold Em.aM;simp [h1]
  have b:=hT a;clear a;go_enter func143,ntmps143;go_wp2_with fail;go_ret;exact ⟨by rw [b.out];rfl,d⟩
theorem vN (n s:Nat) (w:World) (g:1<=s) (j:n<=9223372036854775807) (c:s<=9223372036854775807):zF 177 #[zI n,zI s] w (zQ (zI (Em.parts n s:Nat)) w):=by
 have b:=UI n s;have hle:=Em.iw n s;obtain ⟨q,a⟩:=eX1 (n / s);have i:(n:Int) / (s:Int)= (q:Int):=by rw [a];exact (Int.natCast_ediv n s).symm
 have f:q<=9223372036854775807:=by omega
 by_cases h:n % s= 0;·
  have e:Em.parts n s= q:=by unfold Em.parts;rw [if_pos h,a];rfl
  rw [e];have hd:((n:Int) % (s:Int) != 0)= false:=by rw [<-Xq];simp;omega
  clear e hle b h a;go_enter func177,ntmps177;go_wp2_with fail;go_ret;exact ⟨rfl,rfl⟩
 ·have e:Em.parts n s= q+1:=by unfold Em.parts;rw [if_neg h,a]
  rw [e]at hle⊢;have d:q+1<=9223372036854775807:=by omega
  have hd:((n:Int) % (s:Int) != 0):=by rw [<-Xq];simp;omega
  clear e hle b h a;go_enter func177,ntmps177;go_wp2_with fail;go_ret;exact ⟨rfl,rfl⟩
def refuse (o c n lo hi:Int):Int:=if Em.aM o c= true then (if n<lo\/hi<n then 2 else 0) else 1
theorem jv (o c n lo hi:Int) (w:World):zF 117 #[zM o c,zI n,zI lo,zI hi] w (zJ (zI (refuse o c n lo hi)) w):=by have C:=λw1=>hT (kP o c w1);obtain ⟨r,b⟩:=eX1 (Em.aM o c);rw [<-b]at C;have f:zB w (w.alloc (zE o c 103)):=zA;have d:=hT f;clear f;cases r with
 | false =>
 have e:refuse o c n lo hi= 1:=by unfold refuse;rw [<-b];rfl
 rw [e];clear b e;go_enter func117,ntmps117;go_wp2_with fail;refine zg (C _).out λw1 hb=>?_;have a:=zT d hb;clear hb;go_wp2_with fail;go_ret;exact ⟨rfl,a.out⟩
 | true =>
 by_cases h1:n<lo;·
  have e:refuse o c n lo hi= 2:=by unfold refuse;rw [<-b,if_pos rfl,if_pos (.inl h1)]
  rw [e];clear b e;go_enter func117,ntmps117;go_wp2_with fail;refine zg (C _).out λw1 hb=>?_;have a:=zT d hb;clear hb;go_wp2_with fail;go_ret;exact ⟨rfl,a.out⟩
 ·by_cases g:hi<n;·
   have e:refuse o c n lo hi= 2:=by unfold refuse;rw [<-b,if_pos rfl,if_pos (.inr g)]
   rw [e];clear b e;have hd:decide (n<lo)= false:=by simpa using h1
   go_enter func117,ntmps117;go_wp2_with fail;refine zg (C _).out λw1 hb=>?_;have a:=zT d hb;clear hb;go_wp2_with fail;go_ret;exact ⟨rfl,a.out⟩
  ·have e:refuse o c n lo hi= 0:=by unfold refuse;rw [<-b,if_pos rfl,if_neg (by omega)]
   rw [e];clear b e;have hd:decide (n<lo)= false:=by simpa using h1
   have h:decide (hi<n)= false:=by simpa using g
   go_enter func117,ntmps117;go_wp2_with fail;refine zg (C _).out λw1 hb=>?_;have a:=zT d hb;clear hb;go_wp2_with fail;go_ret;exact ⟨rfl,a.out⟩
theorem ph (o c:Int) (n:Nat) (w:World) (b:Em.aM o c) (e:n<=9223372036854775807):zF 161 #[zM o c,zI n] w (zJ (zI (Em.parts n 13:Nat)) w):=by
 have C:=λw1=>hT (kP o c w1);rw [b]at C;have D:=λw1=>hT (vN n 13 w1 (by omega) (by omega) (by omega));have d:Hid (zB w (w.alloc (zE o c 103))):=zA;have hd:decide ((n:Int) <0)= false:=by simp
 clear b;go_enter func161,ntmps161;go_wp2_with fail;refine zg (C _).out λw1 hb=>?_;have a:=zT d hb;clear hb;go_wp2_with fail;refine zh (D _).out ?_;go_wp2_with fail;go_ret;exact ⟨rfl,a.out⟩
theorem jY {o c n lo hi:Int} (a:Em.aM o c) (h1:lo<=n) (b:n<=hi):refuse o c n lo hi= 0:=by unfold refuse;rw [if_pos a,if_neg (by omega)]
theorem lP {o c n lo hi:Int} (a:Em.aM o c) (h:n<lo\/hi<n):refuse o c n lo hi= 2:=by unfold refuse;rw [if_pos a,if_pos h]
theorem C7 {o c n lo hi:Int} (a:Em.aM o c= false):refuse o c n lo hi= 1:=by unfold refuse;rw [a];rfl
theorem C8 {n:Nat} (h:n<=1048576):Em.parts n 13<=80660:=by rw [Em.kN];omega
def jZ (n:Nat):Int:=if n= 0 then 111 else 0
theorem vO {n:Nat} (h:n≠0):jZ n= 0:=if_neg h
theorem C9 (o c s b r u q t:Nat) (w:World) (G:Em.aM o c) (L:s<=1048576) (d:s= 0/\b= 0\/s= b+1) (hu:r= 0/\u= 0\/r= u+1) (I:q= b / (1+13*c)) (m:r= b % (1+13*c)) (B:t= u / c): zF 240 #[zM o c,zI s] w λe w'=>e= zV (zI ((q*13+t:Nat):Int)) (zI (jZ (q*13+t)))/\zB w w':=by
 have C:=λw1=>hT (jv o c s 0 1048576 w1);rw [jY G (by omega) (by omega)]at C;obtain ⟨h1,R,Q,P⟩:=(Em.cM _ _).1 G;have N:1<=c:=by omega
 have M:c<=128:=by omega
 have J:b<=1048576:=by omega
 have H:q<=b:=by rw [I];exact UI _ _
 have E:t<=u:=by rw [B];exact UI _ _
 have F:r<=1664:=by have:=Nat.mod_lt b (show 0<1+13*c by omega);omega
 have j:(b:Int) / (1+13* (c:Int))= (q:Int):=by rw [I];simp
 have i:(b:Int) % (1+13* (c:Int))= (r:Int):=by rw [m];simp
 have k:(u:Int) / (c:Int)= (t:Int):=by rw [B];simp
 have A:Hid (zB w (w.alloc (zE o c 103))):=zA;have a:=kO w (o:Int) (c:Int);have z:Hid (q*13+t= 0↔q*13+t= 0):=Iff.rfl;have O:∀x:Nat,(x:Int)= 0↔x= 0:=λx=>by omega
 have n:b= 0->r= 0:=λh=>by rw [m,h,Nat.zero_mod]
 have g:u= 0->t= 0:=λh=>by rw [B,h,Nat.zero_div]
 clear G h1 R Q P I m B z O;rcases d with ⟨rfl,rfl⟩|rfl;·
  obtain rfl:q= 0:=by omega
  rcases hu with ⟨rfl,rfl⟩|rfl;· obtain rfl:t= 0:=g rfl;clear E n g j i k L J H F;go_enter func240,ntmps240;go_wp2_with fail;refine zg (C _).out λw1 d=>?_;have c1:=(d.cell (p:=(zz w 1)) (by simp)).trans a.2;have f:=zT A d;clear d a;go_wp2_with fail;go_region;go_wp2_with fail;go_ret2;exact ⟨rfl,f.out.drew⟩
  ·have:=n rfl;omega
 ·clear n;rcases hu with ⟨rfl,rfl⟩|rfl;·
   obtain rfl:t= 0:=g rfl;clear g k;have v:(b:Int) % (1+13* (c:Int))= 0:=i;clear i;by_cases l:q= 0;· subst l;have y:(b:Int) / (1+13* (c:Int))= 0:=j;clear j;go_enter func240,ntmps240;go_wp2_with fail;refine zg (C _).out λw1 d=>?_;have c1:=(d.cell (p:=(zz w 1)) (by simp)).trans a.2;have f:=zT A d;clear d a;go_wp2_with fail;go_region;go_wp2_with fail;go_ret2;exact ⟨rfl,f.out.drew⟩
   ·have D:((q:Int) *13 == 0)= false:=by simp;omega
    have z:=hT l;clear l;go_enter func240,ntmps240;go_wp2_with fail;refine zg (C _).out λw1 d=>?_;have c1:=(d.cell (p:=(zz w 1)) (by simp)).trans a.2;have f:=zT A d;clear d a;go_wp2_with fail;go_region;go_wp2_with fail;go_ret2;exact ⟨by rw [vO (by have:=z.out;omega)];simp,f.out.drew⟩
  ·clear g;have v:(b:Int) % (1+13* (c:Int))= (u:Int) +1:=by rw [i];simp
   clear i;by_cases l:q*13+t= 0;·
    obtain rfl:q= 0:=by omega
    obtain rfl:t= 0:=by omega
    have y:(b:Int) / (1+13* (c:Int))= 0:=j;have K:(u:Int) / (c:Int)= 0:=k;clear j k l;go_enter func240,ntmps240;go_wp2_with fail;refine zg (C _).out λw1 d=>?_;have c1:=(d.cell (p:=(zz w 1)) (by simp)).trans a.2;have f:=zT A d;clear d a;go_wp2_with fail;go_region;go_wp2_with fail;go_ret2;exact ⟨rfl,f.out.drew⟩
   ·have D:((q:Int) *13+ (t:Int) == 0)= false:=by simp;omega
    have z:=hT l;clear l;go_enter func240,ntmps240;go_wp2_with fail;refine zg (C _).out λw1 d=>?_;have c1:=(d.cell (p:=(zz w 1)) (by simp)).trans a.2;have f:=zT A d;clear d a;go_wp2_with fail;go_region;go_wp2_with fail;go_ret2;exact ⟨by rw [vO z.out];simp,f.out.drew⟩
theorem C_ (o c s:Nat) (w:World) (b:Em.aM o c) (a:s<=1048576):zF 240 #[zM o c,zI s] w λe w'=>e= zV (zI (Em.room c s:Nat)) (zI (jZ (Em.room c s)))/\zB w w':= C9 o c s (s - 1) ((s - 1) % (1+13*c)) ((s - 1) % (1+13*c) - 1) ((s - 1) / (1+13*c)) (((s - 1) % (1+13*c) - 1) / c) w b a (by omega) (by omega) rfl rfl rfl
end Geo
end
end Go.Proofs.YtchihokmgmchcaaGreat
