/- The law's script. -/
import Derived.Test.YtdeplgkhmebalaaGreatDoorP36
import Derived.Test.YtdeplgkhmebalaaGreatDoorP03

set_option linter.unusedSimpArgs false
set_option linter.unusedVariables false
set_option maxHeartbeats 4000000
set_option maxRecDepth 100000
namespace Go.Proofs.YtdeplgkhmebalaaGreatDoor
open Go.RowKit

def addsL:List UInt8:=[83,84,75,1,1,2,127,127,1,127,1,0,0,0,7,0,32,0,32,1,106,11]
theorem adds_ok:(loadM addsL).toOption.isSome=true:=by kernel_rfl
theorem adds_load: ∃f,loadM addsL= .ok f:=by
 have :=adds_ok
 cases h:loadM addsL with
 |ok f=>exact⟨f,rfl⟩
 |error e=>rw[h]at this;cases this
theorem adds_any (w:World):Calls Tryz.prog 43 #[] w fun r w'=>(r= .returned (.slice (some ⟨w.heap.size,0,none⟩) 22 22)∧BytesAt w' (.slice (some ⟨w.heap.size,0,none⟩) 22 22) addsL∧w.heap.size<w'.heap.size)∧Kp no w w':=by
 go_enter Tryz.func43,Tryz.ntmps43
 go_wp2
 go_ret
 refine⟨⟨rfl,?_,by simp⟩,(Kp.refl _ _).alloc _⟩
 have hb:=heap_alloc_new w (.cells (Rf.byteVals addsL).toArray 5)
 refine BytesAt.mk (l:=addsL) (by decide) (fun k hk=> ?_)
 have hc:=(cells_of hb).1 (0+k)
 refine Eq.trans hc ?_
 rw[Nat.zero_add,List.getElem?_toArray,List.getElem?_map,List.getElem?_eq_getElem hk,List.getD_eq_getElem?_getD,List.getElem?_eq_getElem hk]
 rfl

theorem plays_any {w:World} {v:Value} {N:Nat} (h:ScriptAt w v N) (hN:N≤10000000) (hR:RowsOk w):
  Calls Tryz.prog 15 #[v,.int .i64 3,.bool false] w fun r w'=>r= .returned (.bool true)∧Kp no w w':=by
 obtain⟨cells,hrow,hall⟩:=h
 obtain⟨adS,capS,rfl,hcapS⟩:=hrow.shape
 have HRow:=hide hrow
 have HAll:=hide hall
 have HR:=hide hR
 clear hrow hall hR
 go_enter Tryz.func15,Tryz.ntmps15
 go_wp2_with fail
 have k1:Kp no w (w.alloc (.cells #[.slice none 0 0,.slice none 0 0,.slice none 0 0,.int .i64 0,.slice none 0 0,.slice none 0 0,.slice none 0 0,.bool false] 90)):=(Kp.refl _ _).alloc _
 have hb1:=heap_alloc_new w (.cells #[.slice none 0 0,.slice none 0 0,.slice none 0 0,.int .i64 0,.slice none 0 0,.slice none 0 0,.slice none 0 0,.bool false] 90)
 generalize w.alloc (.cells #[.slice none 0 0,.slice none 0 0,.slice none 0 0,.int .i64 0,.slice none 0 0,.slice none 0 0,.slice none 0 0,.bool false] 90)=w1 at *
 have hz1:=lt_of_blk hb1
 obtain⟨wb,hwb⟩: ∃wb,wb=w.heap.size:=⟨_,rfl⟩
 rw[←hwb]at hb1⊢
 have h1:LwSt w1 no wb 0 (.slice none 0 0) (.slice none 0 0) [] 0:=by
  refine⟨hb1,?_,⟨[],World.ownsRow_nil _ _ _ _,(fun k x h=>by simp at h)⟩,(fun x h=>by simp at h),by simp,⟨[],World.ownsRow_nil _ _ _ _,(fun k h=>by omega)⟩,(fun b h=>by cases h),by decide⟩
  refine RowsAt.on (ro:=fun b=>b<w.heap.size) k1.any (fun b hb=>⟨by omega,by omega,(fun e=>by cases e),(fun e=>by cases e),fun e=>e⟩) HR.out
 have H1:=hide h1
 have K1:=hide k1
 have HWb:=hide hwb
 clear h1 k1 hb1 hwb
 refine(adds_any w1).mono ?_
 rintro r w2 ⟨⟨rfl,hb2,hz2⟩,k2⟩
 have HB2:=hide hb2
 have K2:=hide (K1.out.trans k2)
 have H2:=hide (H1.out.kp (X':=no) k2 (fun b h=>h.elim))
 clear hb2 k2
 go_wp2_with fail
 obtain⟨f,hf⟩:=adds_load
 refine(step_load H2.out (Rf.BytesOk.of HB2.out) (fun b hb=>by unfold Rf.bvB at hb;rw[if_neg (by decide)]at hb;have :=own_b hb;omega) (by decide) 0 0 0 none 0 0).mono ?_
 rintro r w3 ⟨rfl,mv3,mods3,h3,hf3,-,k3⟩
 obtain⟨x,-,rfl⟩:=hf3 f hf (by simp)
 have K3:=hide (K2.out.comp k3 (S:=no) (fun _ _ h=>h) (fun b hb h=>by
  rcases h with h|h
  ·have :=HWb.out;omega
  ·cases h))
 have H3:=hide h3
 obtain⟨hcw,-⟩:=cells_of h3.blk
 obtain⟨c3,o3,-⟩:=h3.mown
 obtain⟨adM,capM,rfl⟩:=own_shape o3
 clear h3 hf3 k3 o3 hf
 go_wp2_with fail
 refine(step_funcs H3.out (by simp) 0 0 0 (by decide) (by decide) none 0 0 none 0 0).mono ?_
 rintro r w4 ⟨rfl,k4⟩
 have H4:=hide (H3.out.kp (X':=no) k4 (fun b h=>h.elim))
 have K4:=hide (K3.out.trans k4)
 obtain⟨hcw4,-⟩:=cells_of H4.out.blk
 clear k4 hcw
 go_wp2_with fail
 refine(step_type H4.out (by simp) (by decide) 0 0 0 (by decide) (by decide) none 0 0 none 0 0).mono ?_
 rintro r w5 ⟨rfl,n5,bv5,h5,k5⟩
 have H5:=hide h5
 have K5:=hide (K4.out.comp k5 (S:=no) (fun _ _ h=>h) (fun b hb h=>by
  rcases h with h|h
  ·have :=HWb.out;omega
  ·cases h))
 clear h5 k5 hcw4
 go_wp2_with fail
 go_loopw [10,13,14] (fun o i _ wr=> ∃(k:Nat) (n':Int) (mv' bv':Value) (mods':List Md) (cnt':Nat),k≤N∧o= .bool true∧i= .int .i64 k∧LwSt wr no wb n' mv' bv' mods' cnt'∧cnt'≤2+2*k∧0<mods'.length∧Kp no w wr) (fun _ i _ _=>N - (intOf i).toNat)
 case atStart=>exact⟨0,n5,_,bv5,_,0+2,by omega,rfl,rfl,H5.out,by omega,by simp,K5.out⟩
 case round=>
  obtain⟨k,n',mv',bv',mods',cnt',hk,rfl,rfl,hst,hcnt,hpos,hkp⟩:=hrel
  have HS:=hide hst
  have HK:=hide hkp
  obtain⟨hcw,-⟩:=cells_of hst.blk
  clear hst hkp
  by_cases hlt:k<N
  ·obtain⟨kd,a,b,c,sv,data,al,nl,cl,e0,e1,e2,e3,e4,e5,hs,hsl,hd,ha1,ha2⟩:=HAll.out k hlt
   obtain⟨aS,oS,cS,hv,-,q0⟩:=HRow.out.get e0
   obtain⟨_,_,_,hv1,-,q1⟩:=HRow.out.get e1
   obtain⟨_,_,_,hv2,-,q2⟩:=HRow.out.get e2
   obtain⟨_,_,_,hv3,-,q3⟩:=HRow.out.get e3
   obtain⟨_,_,_,hv4,-,q4⟩:=HRow.out.get e4
   obtain⟨_,_,_,hv5,-,q5⟩:=HRow.out.get e5
   cases hv
   cases hv1
   cases hv2
   cases hv3
   cases hv4
   cases hv5
   rw[←Nat.add_assoc]at q1 q2 q3 q4 q5
   replace q0:=HK.out.allCells q0
   replace q1:=HK.out.allCells q1
   replace q2:=HK.out.allCells q2
   replace q3:=HK.out.allCells q3
   replace q4:=HK.out.allCells q4
   replace q5:=HK.out.allCells q5
   obtain⟨ads,caps,rfl,-⟩:=hs.shape
   have HSb:=hide (hs.kp HK.out (fun _ _ h=>h))
   have hkz:=HK.out.size
   have HSl:=hide hsl
   clear e0 e1 e2 e3 e4 e5 hs hsl
   by_cases hkd:3<kd
   ·go_wp2_with fail
    go_roundw
    case rel=>exact⟨k+1,n',mv',bv',mods',cnt',by omega,rfl,by go_num,HS.out,by omega,hpos,HK.out⟩
    case measure=>simp[intOf];omega
   ·go_wp2_with fail
    refine(lawStep_any HS.out hpos (by omega) HSb.out (fun b hb=>by have :=HSl.out b hb;omega) hd kd a b c (by omega) ha1 ha2 al nl cl).mono ?_
    rintro r w6 ⟨rfl,n6,mv6,bv6,mods6,cnt6,h6,hc6,hp6,k6⟩
    have H6:=hide h6
    have K6:=hide (HK.out.comp k6 (S:=no) (fun _ _ h=>h) (fun b hb h=>by have :=HWb.out;omega))
    obtain⟨hcw6,-⟩:=cells_of h6.blk
    clear h6 k6 q0 q1 q2 q3 q4 q5 hcw
    go_wp2_with fail
    refine(looks_any H6.out (by omega)).mono ?_
    rintro r w7 ⟨rfl,k7⟩
    have H7:=hide (H6.out.kp (X':=no) k7 (fun b h=>h.elim))
    have K7:=hide (K6.out.trans k7)
    clear k7 hcw6
    go_wp2_with fail
    go_roundw
    case rel=>exact⟨k+1,n6,mv6,bv6,mods6,cnt6,by omega,rfl,by go_num,H7.out,by omega,hp6,K7.out⟩
    case measure=>simp[intOf];omega
  ·go_wp2_with fail
   go_loopw [10,15,16,17] (fun o i _ _ wr=>o= .bool true∧i= .int .i64 0∧Kp no w wr∧ ∃(n':Int) (mv' bv':Value) (mods':List Md) (cnt':Nat),LwSt wr no wb n' mv' bv' mods' cnt') (fun _ _ _ _ _=>0)
   case atStart=>exact⟨rfl,rfl,HK.out,_,_,_,_,_,HS.out⟩
   case round=>
    obtain⟨rfl,rfl,hkp,n2,mv2,bv2,mods2,cnt2,h2⟩:=hrel
    clear HK HS hcw
    have HK:=hide hkp
    have HS:=hide h2
    obtain⟨hcw,-⟩:=cells_of h2.blk
    clear hkp h2
    go_wp2_with fail
    go_loopw [10,18,19] (fun o i _ wr=>o= .bool true∧i= .int .i64 0∧Kp no w wr∧ ∃(n':Int) (mv' bv':Value) (mods':List Md) (cnt':Nat),LwSt wr no wb n' mv' bv' mods' cnt') (fun _ _ _ _=>0)
    case atStart=>exact⟨rfl,rfl,HK.out,_,_,_,_,_,HS.out⟩
    case round=>
     obtain⟨rfl,rfl,hkp,n2,mv2,bv2,mods2,cnt2,h2⟩:=hrel
     clear HK HS hcw
     have HK:=hide hkp
     obtain⟨hcw,-⟩:=cells_of h2.blk
     clear hkp h2
     go_wp2_with fail
     go_ret
     exact⟨rfl,HK.out⟩

theorem loadsW_any {w:World} {v:Value} {N:Nat} (h:ScriptAt w v N) (hN:N≤10000000) (hR:RowsOk w):
  Calls Tryz.prog 3 #[v] w fun r w'=>r= .returned (.bool true)∧Kp no w w':=by
 have hp:=plays_any h hN hR
 obtain⟨cells,hrow,-⟩:=h
 obtain⟨adS,capS,rfl,-⟩:=hrow.shape
 have HP:=hide hp
 clear hp hrow hR
 go_enter Tryz.func3,Tryz.ntmps3
 go_wp2_with fail
 refine HP.out.mono ?_
 rintro r w1 ⟨rfl,k1⟩
 have K1:=hide k1
 clear k1
 go_wp2_with fail
 go_ret
 exact⟨rfl,K1.out⟩
end Go.Proofs.YtdeplgkhmebalaaGreatDoor
