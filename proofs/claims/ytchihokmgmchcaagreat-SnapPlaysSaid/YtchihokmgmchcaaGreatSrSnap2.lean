/- SnapPlays: any snapshots that are created, deleted, read and written, and any sectors of the origin, of any formatted disk, that may be opened again, are answered as the law asks, for every case. No condition. -/
import Derived.Test.YtchihokmgmchcaaGreatSrFacts1
import Derived.Test.YtchihokmgmchcaaGreatSrSnap1
import Derived.Test.YtchihokmgmchcaaGreatSq0K
set_option linter.unusedVariables false
set_option maxRecDepth 100000
set_option maxHeartbeats 4000000
namespace Go.Proofs.YtchihokmgmchcaaGreat.snapPlays
open Go.ChangeShapes Go.WideShapes Go.ChangeAt Go.RowKit
open Go.ChangeMaps (open_string shut_string)
theorem own:ownKnob Tryz.prog.godebug= none:=by kernel_rfl
theorem laidOut:laidOutB Tryz.prog= true:=by kernel_rfl
theorem walk {w:World} {a n g:Int} {b:zL} {la:Option Addr} {xs:List (Sl.Ac×Sl.Al)} {lc:Nat} (hc:Sl.vH w b la xs): zF 3 #[.agg #[zI a,zI n,zI g, .string (Om.B b), .slice la xs.length lc]] w (zJ (.bool true) w):=Sl.S_ a n g b xs.length lc rfl hc
theorem lifted (os:Os) (started:os.Started) (H:Type) (enc:TypeId×Value→H):
    ReturnsInHanded {} Tryz.checked os 3 .any (Rows.snapPlaysSpec.pre6 enc Tryz.prog Tryz.f3 Rows.snapPlaysRow.domain false) (Rows.snapPlaysSpec.post enc Tryz.prog Tryz.f3 false true false false):=by
  refine returnsInHanded_of_change (C:=Tryz.checked) own started (by kernel_rfl) Tryz.func3
    (ChangeSpec.witness6 (enc:=enc) (C:=Tryz.checked) false ⟨#[],#[.agg #[.int .i64 0, .int .i64 0, .int .i64 0, .string ByteArray.empty, .slice none 0 0]], []⟩ 8 (by kernel_rfl) (by kernel_rfl) (by kernel_rfl) (by kernel_rfl)) ?_
  intro W base args D gs before a n l _
  have b:∀(j:Nat) t v,Tryz.f3.params[j]?= some t→args[j]?= some v→Value.okWide Tryz.prog W .any base t v:=a
  have g:=n
  obtain ⟨p,q,c,A,rfl,z,y⟩:=n
  have o:DataW.TrodAll enc Tryz.prog W 0 (fun _=>true) true Tryz.f3.params.toList args.toList D p:=c
  rw [Tryz.params3]at o b
  obtain ⟨i,s,d0,B,w,F,f,rfl,rfl,r,u⟩:=trodAll_cons o
  obtain ⟨rfl,rfl,rfl⟩:=trodAll_nil u
  obtain rfl:args= #[i]:=by cases args;simp_all
  obtain ⟨rfl,rfl⟩:=trodVars_none A
  have k:=r
  have d:∀x∈w,x.block<W.heap.size:=by obtain ⟨m,hm⟩:=k;exact DataW.trod_lt m _ _ _ hm
  obtain ⟨_,_,_,_,_,_,_,rfl,E⟩:=Sl.Sx (b 0 26 i rfl rfl) r
  clear c a
  refine (walk E).mono fun e W' ⟨he,aL⟩=>?_
  subst he
  exact ⟨_,rfl,_,_,_, [],_, [],g,trodAll_mk1 (shut_bool Tryz.underlying4 _),(trodAll_cons_mk (Below.trod laidOut (by kernel_rfl) (of_decide_eq_true (by kernel_rfl)) k aL d) trodAll_mk0),rfl,aL.frame _,fun h=>by cases h⟩
theorem over:Rows.snapPlaysRow.holds Tryz.pinned (OpenSpec.ofChange Rows.snapPlaysSpec):= OpenClaim.holds_of_wide 3 Tryz.f3 rfl rfl rfl rfl rfl rfl rfl ⟨rfl,rfl,rfl,rfl,rfl⟩ rfl rfl rfl rfl rfl (by kernel_rfl) Tryz.func3 De (of_decide_eq_true (by kernel_rfl)) (by unfold Func.isWrapper;first|(rw [if_pos (by decide +kernel)];kernel_rfl)|(rw [if_neg (by decide +kernel)];exact ⟨rfl,rfl⟩)) (λos started H enc _=>lifted os started H enc)
theorem proved:Rows.SnapPlaysSaid:=over
#print axioms proved
end Go.Proofs.YtchihokmgmchcaaGreat.snapPlays
