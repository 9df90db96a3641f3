/-
  For every script of bulk at most 1048576 the function Runs of the package stokerlaw returns true and its argument reads as before: whatever a script loads, starts and calls, the program at this commit answers as the document does up to the first trap and with it (each error, trap, value and what was burnt; memory, globals, keys and values; Funcs and Type), and no list that came out is changed later; the tables look.rows and math/bits.deBruijn64tab are as the program's text lays them (the tied card of the second form).
-/
import Derived.Test.YtdeplgkhmebalaaGreatDoorCards
import Derived.Test.YtdeplgkhmebalaaGreatDoorTie
import Derived.Test.YtdeplgkhmebalaaGreatDoorP09
set_option linter.all false
set_option maxRecDepth 100000
variable{w W X:Go.World}{n k i b a t j N q B c d m o p r:Nat}{v u z:Go.Value}{y:Int}{D l:List UInt8}{L I:List Int}{g:UInt8}{F:List Go.Value}{S P R:Nat->Prop}{T:Go.TypeId}
namespace Go.Proofs.YtdeplgkhmebalaaGreatDoor
open Bool renaming false->Yj,true->Yk
open Go renaming Calls->Yy,Value->Yx,World->Yw
open Go.Ending renaming returned->Yq
open Go.Value renaming slice->Q
open Option renaming none->H,some->M
open Proofs.Tryz
namespace aaF
section
def ac5:(Rows.runsUptoRow.inPlace==Tryz.prog.inPlace 4)=true:=Vf
def unf:(Rows.runsUptoRow.unfollowed==Tryz.prog.unfollowed 4)=true:=Vf
def ac6:(Rows.runsUptoRow.recurses==Tryz.prog.recurses 4)=true:=Vf
def named:(Rows.runsUptoRow.named==Tryz.prog.varsNamed 4)=true:=Vf
def aR:joinedFacts prog 4 Tryz.f4 (Rows.OpenSpec.upto Rows.runsSpec).bare Rows.runsUptoRow=true:=by
 unfold joinedFacts;rw[wu,zt,ac5,unf,ac6,named];kernel_rfl
end
section
open Go.ChangeShapes Go.WideShapes Go.ChangeAt Go.RowKit
theorem own:ownKnob Tryz.prog.godebug=none:=Vf
def contract(a:Type)(c:TypeId×Yx->a)(W:Yw)(k:Nat)(b:Array Yx)(l r:List (DataW a))(m:List MemPlace)
  (d:∀(j:Nat) t v,Tryz.f4.params[j]?=M t->b[j]?=M v->Value.okWide prog W .any k t v)
  (s:DataW.Whole c prog Tryz.f4.params.toList Rows.runsSpec.vars Yj W b.toList l r m)(x:Rows.uptoSmall a (l++r)=Yk)(u:laidMetH prog Rows.runsUptoRow.laid W):
  Yy prog 4 b W λe j=> ∃v,e= Yq v/\Rows.runsSpec.post c prog Tryz.f4 Yj Yk Yj Yj W b v j:=by
 have f:=s;obtain⟨p,q,g,y,rfl,z,A⟩:=s;have t:DataW.TrodAll c prog W 0 (λ_=>Yk) Yk Tryz.f4.params.toList b.toList l p:=g;rw[Tryz.params4]at t d;obtain⟨v,B,C,D,I,J,E,rfl,rfl,w,F⟩:=trodAll_cons t;obtain⟨rfl,rfl,rfl⟩:=trodAll_nil F;obtain rfl :b=#[v]:=Ve
 obtain⟨rfl,rfl⟩:=trodVars_none y;have G:Rows.uptoBulk C<=1048576:=by
  have:=XA x;grind[Rows.uptoBulkAll]
 obtain⟨N,hS,K,n⟩:=MU (d 0 22 v U U) w G;clear g;simp only[VF]at f;have o:=aaU hS Y (Dq Vf (.tail _ (.head _)) u) (FQ Vf (.head _) u);refine o.mono λe j ⟨h,i⟩=>?_
 subst h;have e:Below W.heap.size W j:=i.below cQ (λ_ h=>h.elim);exact⟨_,U,_,_,_,[],_,[],f,trodAll_cons_mk (shut_bool underlying4 _) trodAll_mk0,(trodAll_cons_mk (Below.trod wu Vf (XA Vf) w e n) trodAll_mk0),U,TR i _,λh=>by cases h⟩
def QW(a:Os):laidMetH prog Rows.runsUptoRow.laid ((World.laidAll prog a Rows.runsUptoRow.laid).forCall (λ_ _=>0) ⟨#[],#[Q H 0 0],[]⟩).memory:=by
 rw[MakeChecks.laidMetH_plain _ _ _ Vf];exact laidMet_laidAll _ Vf Vf
def aaE(a:Os):((World.laidAll prog a Rows.runsUptoRow.laid).forCall (λ_ _=>0) ⟨#[],#[Q H 0 0],[]⟩).Shaped Tryz.checked.prog:=World.shaped_of_ZipB Vf Vf
def okw(a:Os):Input.okWideB Tryz.checked.prog ((World.laidAll prog a Rows.runsUptoRow.laid).forCall (λ_ _=>0) ⟨#[],#[Q H 0 0],[]⟩) 4 ⟨#[],#[Q H 0 0],[]⟩=true:=Vf
def ab2(d:Os){a:Type}(b:TypeId×Yx->a):∃c,DataW.whole b prog ((World.laidAll prog d Rows.runsUptoRow.laid).forCall (λ_ _=>0) ⟨#[],#[Q H 0 0],[]⟩).memory Tryz.f4.params.toList Rows.runsSpec.vars Yj #[Value.slice H 0 0].toList 8=M ([.nil],[],c):=
 ⟨[],Vf⟩
def lifted(c:Os)(d:c.Started)(a:Type)(b:TypeId×Yx->a)(F:Stop.Interp):
  ReturnsInHanded {} Tryz.checked c 4 .any ((Rows.OpenSpec.upto Rows.runsSpec).preRow b prog Tryz.f4 Rows.runsUptoRow.domain Yj Rows.runsUptoRow.laid) (((Rows.OpenSpec.upto Rows.runsSpec).at F).post b prog Tryz.f4 Yj Yk Yj Yj):=by
 obtain⟨i,j⟩:=ab2 c b;refine returnsInHanded_of_row (C:=Tryz.checked) (s:=Rows.OpenSpec.upto Rows.runsSpec) own d Vf func4
  ⟨World.laidAll prog c Rows.runsUptoRow.laid,λ_ _=>0,⟨#[],#[Q H 0 0],[]⟩,World.laidAll_os _ _ _,aaE c,(Input.okWide_of_okWideB (base:=0) (okw c)).1,(Input.okWide_of_okWideB (okw c)).2,
   OpenSpec.preRow_of_cond 8 j Vf (λk e=>by cases e;kernel_rfl) Vf (QW c),?_⟩ ?_
 .grind[Assume.holds]
 .intro W base e k l f g m _ h _ n _ _;exact contract a b W base e k l f g m (h _ U) n
def adq:Rows.RunsUptoSaid:=
 OpenClaim.holds_of_cond 4 Tryz.f4 U U U U U U U ⟨U,U,U,U,U⟩ rfl U U U U Vf func4 aR
  (XA Vf) (by unfold Func.isWrapper;first |(rw[Vi (by decide +kernel)];kernel_rfl)|(rw[Va (by decide +kernel)];exact⟨U,U⟩))
  (λd b a c _ F=>by rw[OpenClaim.pre_eq_preRow];exact lifted d b a c F)
def plain(f:FuncId)(a:Func)(c:Tryz.pinned.checked.prog.funcNamed "stoker/stokerlaw.Runs" =M f)(b:Tryz.pinned.checked.prog.funcs[f]?=M a):
  Yj=Tryz.pinned.checked.prog.looks []/\ ∀(j:Nat) t,a.params[j]?=M t->Tryz.pinned.checked.prog.wantsStandIn t=false:=by
 obtain rfl :f=4:=Vr ((show Tryz.prog.funcNamed "stoker/stokerlaw.Runs" =M 4 by kernel_rfl).symm.trans c)|>.symm;obtain rfl :a=Tryz.f4:=(Vr (func4.symm.trans b)).symm;refine⟨Vf,λj t d=>?_⟩;rw[Tryz.params4]at d;obtain rfl :t=22:=Ve
 exact(show Tryz.prog.wantsStandIn 22=Yj by kernel_rfl)
def card:Rows.RunsUptoCardSaid:=
 Claim7.holds_tied_plain_at .later [] _ _ _ _ adq (λ_ h=>by cases h) Vf (λ_ h=>by cases h) runsUpto_row_tie U ⟨U,U⟩ Vf U plain Vf
end
end aaF
section
theorem runs_card:Rows.RunsUptoCardSaid:=aaF.card
end
end Go.Proofs.YtdeplgkhmebalaaGreatDoor
