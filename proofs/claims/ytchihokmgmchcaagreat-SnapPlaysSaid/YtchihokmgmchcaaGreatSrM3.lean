/- M3, of the proof -/
import Derived.Test.YtchihokmgmchcaaGreatSrM1
import Derived.Test.YtchihokmgmchcaaGreatSq000
set_option linter.unusedVariables false
set_option maxRecDepth 100000
set_option maxHeartbeats 4000000
namespace Go.Proofs.YtchihokmgmchcaaGreat
open Nat renaming xor_lt_two_pow->WB
open Bool renaming and_eq_true->N6
section
namespace Cm
def step (x:Nat):Nat:=if x % 2= 0 then x / 2 else x / 2 ^^^ 3988292384
theorem Es (x:Nat) (h:x<4294967296):step x<4294967296:=by
 unfold step;split;· omega
 ·exact WB (n:=32) (by omega) (by decide)
def steps (n x:Nat):Nat:=match n with
 | 0=>x
 | n+1=>step (steps n x)
theorem wN (n x:Nat) (h:x<4294967296):steps n x<4294967296:=by induction n with
 | zero=>exact h
 | succ n ih=>exact Es _ ih
def kg (h:Nat):Nat:=steps 4 h
theorem wO (h:Nat) (a:h<16):kg h<4294967296:=wN 4 h (by omega)
def half (x:Nat):Nat:=x / 16 ^^^ kg (x % 16)
theorem Et (x:Nat) (h:x<4294967296):half x<4294967296:= WB (n:=32) (by omega) (wO _ (by omega))
def kh (n x:Nat):Nat:=match n with
 | 0=>x
 | n+1=>half (kh n x)
theorem wP (n x:Nat) (h:x<4294967296):kh n x<4294967296:=by induction n with
 | zero=>exact h
 | succ n ih=>exact Et _ ih
def byte (c:Nat) (b:UInt8):Nat:=kh 2 (c ^^^ b.toNat)
theorem wQ (c:Nat) (b:UInt8) (h:c<4294967296):c ^^^ b.toNat<4294967296:= WB (n:=32) h (by have:=b.toNat_lt;omega)
theorem Eu (c:Nat) (b:UInt8) (h:c<4294967296):byte c b<4294967296:=wP 2 _ (wQ c b h)
def run (c:Nat) (l:zL):Nat:=l.foldl byte c
theorem sF (c:Nat) (l:zL) (h:c<4294967296):run c l<4294967296:=by induction l generalizing c with
 | nil=>exact h
 | cons b r ih=>exact ih _ (Eu c b h)
theorem wR (c:Nat) (a b:zL):run c (a ++ b)= run (run c a) b:=List.foldl_append
def sum (l:zL):Nat:=4294967295 - run 4294967295 l
theorem Ev (l:zL):sum l<4294967296:=by unfold sum;omega
theorem not_eq (x:Nat) (h:x<4294967296):4294967295 - x= 4294967295 ^^^ x:=by have e:= @BitVec.toNat_not 32 (BitVec.ofNat 32 x);rw [<-BitVec.xor_allOnes,BitVec.xor_comm,BitVec.toNat_xor,BitVec.toNat_allOnes,BitVec.toNat_ofNat,Nat.mod_eq_of_lt (by omega)]at e;exact e.symm
def four (l:zL):zL:=Om.low (sum l) 4
theorem pF (l:zL):(four l).length= 4:=Om.g_ _ _
def aN (l:zL):Bool:=l.drop (l.length - 4) == four (l.take (l.length - 4))
theorem wT (p:zL):aN (p ++ four p)= true:=by
 unfold aN;have:(p ++ four p).length - 4= p.length:=by rw [List.length_append,pF];omega
 rw [this,List.drop_left,List.take_left];exact beq_self_eq_true _
end Cm
end
section
namespace Um
def aj (a n g:Int):Bool:=Em.aM n g && (decide (n+17<=a) && decide (a<=1048576))
theorem cT {a n g:Int} (h:aj a n g):1<=n/\n<=1048576/\1<=g/\g<=128/\n+17<=a/\a<=1048576:=by unfold aj at h;rw [N6,N6,decide_eq_true_eq,decide_eq_true_eq,Em.cM]at h;omega
end Um
end
end Go.Proofs.YtchihokmgmchcaaGreat
