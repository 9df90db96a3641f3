/- The document's reader: 's', 'value'. -/
import Derived.Test.YtdeplgkhmebalaaGreatDoorP03

set_option linter.unusedSimpArgs false
set_option linter.unusedVariables false
set_option maxHeartbeats 2000000
set_option maxRecDepth 100000
namespace Go.Proofs.YtdeplgkhmebalaaGreatDoor.Rf
open Go.RowKit

def extM (bits:List Bool) (size:Nat) (sign:Bool):List Bool:=(List.range size).map fun i=>if i<bits.length then bits.getD i false else sign
def signM (bits:List Bool):Bool:=bits.getD (bits.length -1) false
def sM (E:PE) (size:Nat) (σ:PS):Nat×PS:=
 let r:=numberM E (if size=64 then 10 else 5) σ
 if badM r.2 then (0,r.2)else
 if (7<r.1.length∧sameM r.1 (r.1.length -8) (signM r.1)=true)∨(size<r.1.length∧sameM r.1 (size -1) (signM r.1)=false)then (0,failM 2 σ.place r.2)else (valOf (extM r.1 size (signM r.1)),r.2)

theorem ext_length (bits:List Bool) (size:Nat) (sign:Bool):(extM bits size sign).length=size:=by simp[extM]
theorem ext_get (bits:List Bool) (size:Nat) (sign:Bool) (q:Nat) (hq:q<size):(extM bits size sign).getD q false=if q<bits.length then bits.getD q false else sign:=by
 simp[extM,List.getD,hq]
theorem valOf_bd63 {l:List Bool} (h:l.length≤63):valOf l≤9223372036854775807:=by
 have h1:=valOf_lt l
 have h2:2^l.length≤2^63:=Nat.pow_le_pow_right (by decide) h
 have h3:2^63=9223372036854775808:=by decide
 omega

theorem s_any {w:World} {pb:Nat} {E:PE} {σ:PS} (h:PSt w pb E σ) (size:Nat) (hs:size=32∨size=64):
  Calls Tryz.prog 189 #[ptr pb,.int .i64 size] w fun r w'=>r= .returned (.int .u64 (sM E size σ).1)∧PSt w' pb E (sM E size σ).2∧Kp (one pb) w w':=by
 obtain⟨i,err,pl,hi,hb,hp,-⟩:=h.obj
 obtain⟨hc,-⟩:=cells_of hb
 obtain⟨m,hm⟩: ∃m:Nat,m=if size=64 then 10 else 5:=⟨_,rfl⟩
 have hm10:m≤10∧0<m:=by rw[hm];split <;>decide
 have hst:badM σ=true→badM (numberM E m σ).2=true:=fun hh=>by rw[number_sticky hh];exact hh
 have hfp:=fail_place hp hst 2
 have hM:sM E size σ=(if badM (numberM E m σ).2 then (0,(numberM E m σ).2)else
   if (7<(numberM E m σ).1.length∧sameM (numberM E m σ).1 ((numberM E m σ).1.length -8) (signM (numberM E m σ).1)=true)∨(size<(numberM E m σ).1.length∧sameM (numberM E m σ).1 (size -1) (signM (numberM E m σ).1)=false)then (0,failM 2 i (numberM E m σ).2)else (valOf (extM (numberM E m σ).1 size (signM (numberM E m σ).1)),(numberM E m σ).2)):=by rw[hfp,hm];rfl
 generalize sM E size σ=R at *
 have hn:=number_any h m hm10.1 hm10.2
 have hlen:=number_len E m σ
 clear hfp hst hp hb h
 generalize(numberM E m σ).1=bits at *
 generalize(numberM E m σ).2=σ1 at *
 obtain⟨hl1,hl2⟩:=hlen
 have hl3:bits.length≤70:=by omega
 have Hn:=hide hn
 have HL:=hide hl2
 have HM:=hide hM
 clear hn hl2 hM hl1
 go_enter Tryz.func189,Tryz.ntmps189
 go_upto_if 18 with fail
 go_cut [6] (fun x wx=>x= .int .i64 m∧w=wx)
 case first =>
  by_cases h64:size=64
  ·have hq:((size:Int)==64)=true:=by simp;omega
   have hm':m=10:=by rw[hm,if_pos h64]
   clear hm h64 hs
   go_wp2_with fail
   go_meet
   exact⟨by rw[hm'];rfl,rfl⟩
  ·have hq:((size:Int)==64)=false:=by simp;omega
   have hm':m=5:=by rw[hm,if_neg h64]
   clear hm h64 hs
   go_wp2_with fail
   go_meet
   exact⟨by rw[hm'];rfl,rfl⟩
 case rest=>
 obtain⟨rfl,rfl⟩:=hcut
 have Hm:=hide hm
 have hs1:32≤size:=by omega
 have hs2:size≤64:=by omega
 clear hm hs
 go_wp2_with fail
 refine Hn.out.mono ?_
 rintro e w1 ⟨v,rfl,hB,hnew,h1,k1⟩
 obtain⟨ad,cap,rfl,hcap⟩:=hB.shape
 have HB:=hide hB
 have HS:=hide h1
 clear hB h1 hnew Hn hc
 have hM:=HM.out
 by_cases hbd:badM σ1=true
 ·rw[if_pos hbd]at hM
  have HM1:=hide hM
  clear hM
  go_wp2_with fail
  refine(bad_any HS.out).mono ?_
  rintro e w3 ⟨rfl,rfl⟩
  go_wp2
  go_ret
  rw[HM1.out]
  exact⟨rfl,HS.out,k1⟩
 ·rw[if_neg hbd]at hM
  simp only[Bool.not_eq_true]at hbd
  have HM1:=hide hM
  clear hM HM
  have hl2:=HL.out hbd
  obtain⟨a,o,cap',hv,_,hcell⟩:=BoolsAt.get HB.out (show bits.length -1<bits.length by omega)
  simp only[Value.slice.injEq]at hv
  obtain⟨rfl,-,rfl⟩:=hv
  have hsg:bits.getD (bits.length -1) false=signM bits:=rfl
  rw[hsg]at hcell
  clear hsg
  have hM1:=HM1.out
  have hext:=fun q hq=>ext_get bits size (signM bits) q hq
  have hexl:=ext_length bits size (signM bits)
  generalize signM bits=sg at *
  generalize extM bits size sg=ext at *
  have HM2:=hide hM1
  have HX:=hide hext
  have HXL:=hide hexl
  clear hM1 HM1 hext hexl
  go_wp2_with fail
  refine(bad_any HS.out).mono ?_
  rintro e w3 ⟨rfl,rfl⟩
  go_upto_region 9 with fail
  go_cut [9] (fun x wx=>x= .bool (decide (7<bits.length)&&sameM bits (bits.length -8) sg)∧w3=wx)
  case first =>
   by_cases h7:7<bits.length
   ·have h8: ¬(bits.length<8):=by omega
    have h8':bits.length≠7:=by omega
    go_wp2_with fail
    refine(same_int HB.out (by omega) _ (by omega) (by omega) _).mono ?_
    rintro e w4 ⟨rfl,rfl⟩
    go_wp2_with fail
    go_meet
    exact⟨by simp[h7],rfl⟩
   ·go_wp2_with fail
    go_meet
    exact⟨by simp[h7],rfl⟩
  case rest=>
  obtain⟨rfl,rfl⟩:=hcut
  go_upto_region 10 with fail
  go_cut [10] (fun x wx=>x= .bool (decide (size<bits.length)&& !sameM bits (size -1) sg)∧w3=wx)
  case first =>
   by_cases h32:size<bits.length
   ·go_wp2_with fail
    refine(same_int HB.out (by omega) _ (by omega) (by omega) _).mono ?_
    rintro e w4 ⟨rfl,rfl⟩
    go_wp2_with fail
    go_meet
    exact⟨by simp[h32],rfl⟩
   ·go_wp2_with fail
    go_meet
    exact⟨by simp[h32],rfl⟩
  case rest=>
  obtain⟨rfl,rfl⟩:=hcut
  have hM3:R=if ((decide (7<bits.length)&&sameM bits (bits.length -8) sg)=true∨(decide (size<bits.length)&& !sameM bits (size -1) sg)=true)then (0,failM 2 i σ1)else (valOf ext,σ1):=by
   rw[HM2.out];simp
  generalize(decide (7<bits.length)&&sameM bits (bits.length -8) sg)=lg at *
  generalize(decide (size<bits.length)&& !sameM bits (size -1) sg)=gr at *
  have HM3:=hide hM3
  clear hM3 HM2
  by_cases hlg:lg=true∨gr=true
  ·have hM:=HM3.out
   rw[if_pos hlg]at hM
   have HM4:=hide hM
   clear hM HM3
   rcases hlg with rfl |rfl
   ·go_wp2_with fail
    refine(fail_any HS.out _ _ (by decide)).mono ?_
    rintro e w4 ⟨rfl,h4,k4⟩
    have H4:=hide h4
    clear h4
    go_wp2
    go_ret
    rw[HM4.out]
    exact⟨rfl,H4.out,k1.trans k4⟩
   ·cases lg
    all_goals
     go_wp2_with fail
     refine(fail_any HS.out _ _ (by decide)).mono ?_
     rintro e w4 ⟨rfl,h4,k4⟩
     have H4:=hide h4
     clear h4
     go_wp2
     go_ret
     rw[HM4.out]
     exact⟨rfl,H4.out,k1.trans k4⟩
  ·have hM:=HM3.out
   rw[if_neg hlg]at hM
   have HM4:=hide hM
   clear hM HM3
   obtain⟨rfl,rfl⟩:lg=false∧gr=false:=by simpa using hlg
   clear hlg
   go_wp2
   go_loop [11,12] (fun n k=> ∃j:Nat,j≤size∧k= .int .i64 ((j:Int) -1)∧n= .int .u64 (valOf (ext.drop j):Nat)) (fun _ k=>(intOf k+1).toNat)
   case atStart=>exact⟨size,Nat.le_refl _,rfl,by rw[List.drop_of_length_le (by rw[HXL.out];exact Nat.le_refl _)];rfl⟩
   case round=>
    obtain⟨j,hj,rfl,rfl⟩:=hrel
    by_cases hj0:j=0
    ·subst hj0
     simp only[List.drop_zero]
     go_wp2
     go_ret
     rw[HM4.out]
     exact⟨rfl,HS.out,k1⟩
    ·obtain⟨q,rfl⟩: ∃q,j=q+1:=⟨j -1,by omega⟩
     clear hj0
     have hvd:=valOf_drop (l:=ext) (k:=q) (by rw[HXL.out];omega)
     have hbd2:=valOf_bd63 (l:=ext.drop (q+1)) (by simp[HXL.out];omega)
     rw[HX.out q (by omega)]at hvd
     generalize valOf (ext.drop (q+1))=n at *
     have HV:=hide hvd
     clear hvd
     have e1:((q+1:Nat):Int) -1=q:=by omega
     rw[e1]
     by_cases hql:q<bits.length
     ·obtain⟨a2,o2,cap2,hv2,_,hcell2⟩:=BoolsAt.get HB.out hql
      simp only[Value.slice.injEq,Option.some.injEq,Addr.mk.injEq]at hv2
      obtain⟨⟨rfl,rfl,-⟩,-,rfl⟩:=hv2
      have hV2:=HV.out
      rw[if_pos hql]at hV2
      generalize bits.getD q false=x at *
      have HV2:=hide hV2
      clear hV2 HV
      cases x
      ·go_wp2
       go_round
       case rel=>exact⟨q,by omega,by go_num,by rw[HV2.out];simp⟩
       case measure=>simp[intOf]
      ·go_wp2
       go_round
       case rel=>exact⟨q,by omega,by go_num,by rw[HV2.out];simp;omega⟩
       case measure=>simp[intOf]
     ·have hV2:=HV.out
      rw[if_neg hql]at hV2
      have HV2:=hide hV2
      clear hV2 HV
      cases sg
      ·go_wp2
       go_round
       case rel=>exact⟨q,by omega,by go_num,by rw[HV2.out];simp⟩
       case measure=>simp[intOf]
      ·go_wp2
       go_round
       case rel=>exact⟨q,by omega,by go_num,by rw[HV2.out];simp;omega⟩
       case measure=>simp[intOf]

def valueM (E:PE) (t:UInt8) (σ:PS):Nat×PS:=if t=127 then sM E 32 σ else sM E 64 σ

theorem value_any {w:World} {pb:Nat} {E:PE} {σ:PS} (h:PSt w pb E σ) (t:UInt8):
  Calls Tryz.prog 160 #[ptr pb,.int .u8 t.toNat] w fun r w'=>r= .returned (.int .u64 (valueM E t σ).1)∧PSt w' pb E (valueM E t σ).2∧Kp (one pb) w w':=by
 have H:=hide h
 clear h
 by_cases ht:t=127
 ·rw[valueM,if_pos ht]
  have hq:((t.toNat:Int)==127)=true:=by rw[ht];rfl
  clear ht
  go_enter Tryz.func160,Tryz.ntmps160
  go_wp2_with fail
  refine(s_any H.out 32 (.inl rfl)).mono ?_
  rintro e w1 ⟨rfl,h1,k1⟩
  have H1:=hide h1
  clear h1
  go_wp2
  go_ret
  exact⟨rfl,H1.out,k1⟩
 ·rw[valueM,if_neg ht]
  have hq:((t.toNat:Int)==127)=false:=by rw[show(127:Int)=((127:UInt8).toNat:Int)from rfl,u8_eq];simpa using ht
  clear ht
  go_enter Tryz.func160,Tryz.ntmps160
  go_wp2_with fail
  refine(s_any H.out 64 (.inr rfl)).mono ?_
  rintro e w1 ⟨rfl,h1,k1⟩
  have H1:=hide h1
  clear h1
  go_wp2
  go_ret
  exact⟨rfl,H1.out,k1⟩

end Go.Proofs.YtdeplgkhmebalaaGreatDoor.Rf

set_option linter.unusedSimpArgs false
set_option linter.unusedVariables false
set_option maxHeartbeats 1000000
set_option maxRecDepth 100000
namespace Go.Proofs.YtdeplgkhmebalaaGreatDoor.Rf
open Go.RowKit

theorem info_u8:(Tryz.prog.info? 5).map (fun i=>(i.zero,i.size,i.bytes))=some (some (.int .u8 0),1,1):=by kernel_rfl
theorem info_u8': ∃i,Tryz.prog.info? 5=some i∧i.zero=some (.int .u8 0)∧i.size=1∧i.bytes=1:=info_parts info_u8

def typesGo (E:PE):Nat→List UInt8→PS→List UInt8×PS
 |0,l,σ=>(l,σ)
 |r+1,l,σ=>if badM σ then (l,σ)else typesGo E r (l++[(needM E 127 126 126 σ).1]) (needM E 127 126 126 σ).2
def typesM (E:PE) (n:Nat) (σ:PS):List UInt8×PS:=typesGo E n [] σ

abbrev byteVals (l:List UInt8):List Value:=l.map fun c=> .int .u8 c.toNat

theorem types_any {w:World} {pb:Nat} {E:PE} {σ:PS} (h:PSt w pb E σ) (n:Nat) (hn:n≤2000):
  Calls Tryz.prog 159 #[ptr pb,.int .i64 n] w fun r w'=> ∃v,r= .returned v∧BytesAt w' v (typesM E n σ).1∧(∀k,v.ownBlock=some k→w.heap.size≤k)∧PSt w' pb E (typesM E n σ).2∧Kp (one pb) w w':=by
 obtain⟨i0,hi0,hz0,hz1,hz2⟩:=info_u8'
 obtain⟨_,_,_,_,hb,_⟩:=h.obj
 have hpb:=lt_of_blk hb
 have H:=hide h
 clear hb h
 go_enter Tryz.func159,Tryz.ntmps159
 go_wp2
 go_loopw [5,6] (fun v i wr=> ∃(k:Nat) (l:List UInt8) (σ':PS),k≤n∧i= .int .i64 k∧l.length=k∧wr.ownsRow w.heap.size 5 1 v l.length (byteVals l)∧PSt wr pb E σ'∧Kp (one pb) w wr∧typesGo E (n -k) l σ'=typesM E n σ) (fun _ i _=>n - (intOf i).toNat)
 case atStart=>exact⟨0,[],σ,by omega,rfl,rfl,World.ownsRow_nil _ _ _ _,H.out,Kp.refl _ _,rfl⟩
 case round=>
  obtain⟨k,l,σ',hk,rfl,hlk,hown,hst,hkp,hM⟩:=hrel
  have HO:=hide hown
  have HS:=hide hst
  have HK:=hide hkp
  have HM:=hide hM
  have Hl:=hide hlk
  clear hst hkp hM hlk
  obtain⟨ad,cap,rfl⟩:=own_shape hown
  clear hown
  by_cases hlt:k<n
  ·have hM:=HM.out
   obtain⟨q,hq⟩: ∃q,n -k=q+1:=⟨n -k -1,by omega⟩
   rw[hq,typesGo]at hM
   by_cases hbd:badM σ'=true
   ·rw[if_pos hbd]at hM
    have HM1:=hide hM
    have Hq:=hide hq
    clear hM hq
    go_wp2_with fail
    refine(bad_any HS.out).mono ?_
    rintro e w1 ⟨rfl,rfl⟩
    go_wp2
    go_ret
    rw[←HM1.out]
    exact⟨_,rfl,RowAt.own HO.out,own_new HO.out,HS.out,HK.out⟩
   ·rw[if_neg hbd]at hM
    simp only[Bool.not_eq_true]at hbd
    have HM1:=hide hM
    have Hq:=hide hq
    clear hM hq
    go_wp2_with fail
    refine(bad_any HS.out).mono ?_
    rintro e w1 ⟨rfl,rfl⟩
    go_wp2_with fail
    refine(need_any HS.out 127 126 126).mono ?_
    rintro e w2 ⟨rfl,h2,k2⟩
    have hM:=HM1.out
    generalize(needM E 127 126 126 σ').1=x at *
    generalize(needM E 127 126 126 σ').2=σ2 at *
    have H2:=hide h2
    have HM2:=hide hM
    have HO2:=hide (k2.own HO.out (fun k hk=>by have :=(own_new HO.out) k hk;intro e;unfold one at e;omega))
    clear h2 hM HM1
    go_wp2_with(at_builtin;refine wpList_append_own _ rfl _ _ 25 rfl w.heap.size 5 i0 (.int .u8 0) 1 1 Tryz.underlying25 hi0 hz0 hz1 hz2 rfl (by decide) _ _ _ rfl (HO2.out.alloc _) ⟨w2.heap.size,0,none⟩ 1 1 [.int .u8 x.toNat] rfl rfl (cell_one_new _ _ _) ?c2 ?c3 ?c4 ?c5 ?_)
    case c2=>intro u hu;simp at hu;subst hu;rfl
    case c3=>unfold maxLen;rw[Hl.out];omega
    case c4=>rw[Hl.out];omega
    case c5=>have :=HK.out.size;have :=k2.size;simp;omega
    intro v' w4 hown4 hgrow _
    have HO4:=hide hown4
    have HG:=hide hgrow
    clear hown4 hgrow
    go_wp2
    go_roundw
    case rel=>
     have kw:Kp (fun k=>w.heap.size≤k) w2 w4:=((Kp.refl (fun k=>w.heap.size≤k) w2).alloc _).grown HG.out (fun k hk=> .inl (own_new HO2.out k hk))
     refine⟨k+1,l++[x],σ2,by omega,by go_num,by simp[Hl.out],?_,H2.out.keep kw (fun k hk=>by omega),(HK.out.trans k2).comp kw (fun _ _ h=>h) (fun k hk h=>by omega),?_⟩
     ·simpa using HO4.out
     ·rw[show n - (k+1)=q by have :=Hq.out;omega];exact HM2.out
    case measure=>simp[intOf];omega
  ·go_wp2
   go_ret
   have hM:=HM.out
   rw[show n -k=0 by omega,typesGo]at hM
   rw[←hM]
   exact⟨_,rfl,RowAt.own HO.out,own_new HO.out,HS.out,HK.out⟩

theorem list_eq_iff {a b:List UInt8} (hl:a.length=b.length):a=b↔ ∀k,k<a.length→a.getD k 0=b.getD k 0:=by
 constructor
 ·rintro rfl k _;rfl
 ·intro h
  refine List.ext_getElem hl (fun k h1 h2=> ?_)
  have :=h k h1
  simpa[List.getD,List.getElem?_eq_getElem h1,List.getElem?_eq_getElem h2]using this

theorem equal_any {w:World} {va vb:Value} {a b:List UInt8} (ha:BytesAt w va a) (hb:BytesAt w vb b) (hla:a.length≤1000000000):
  Calls Tryz.prog 190 #[va,vb] w fun r w'=>r= .returned (.bool (decide (a=b)))∧Kp no w w':=by
 obtain⟨ada,capa,rfl,hca⟩:=ha.shape
 obtain⟨adb,capb,rfl,hcb⟩:=hb.shape
 have HA:=hide ha
 have HB:=hide hb
 clear ha hb
 by_cases hl:a.length=b.length
 ·have hlb:(((a.length:Nat):Int) !=((b.length:Nat):Int))=false:=by simp;omega
  go_enter Tryz.func190,Tryz.ntmps190
  have Hl:=hide hl
  clear hl
  go_wp2
  go_loopw [5] (fun i wr=> ∃(k:Nat),k≤a.length∧i= .int .i64 k∧(∀j,j<k→a.getD j 0=b.getD j 0)∧Kp no w wr) (fun i _=>a.length - (intOf i).toNat)
  case atStart=>exact⟨0,by omega,rfl,fun j hj=>by omega,Kp.refl _ _⟩
  case round=>
   obtain⟨k,hk,rfl,hall,hkp⟩:=hrel
   have HK:=hide hkp
   clear hkp
   have HL:=hide hall
   clear hall
   by_cases hlt:k<a.length
   ·obtain⟨a1,o1,c1,hv1,_,hcell1⟩:=BytesAt.get HA.out hlt
    obtain⟨a2,o2,c2,hv2,_,hcell2⟩:=BytesAt.get HB.out (show k<b.length by rw[←Hl.out];exact hlt)
    simp only[Value.slice.injEq]at hv1 hv2
    obtain⟨rfl,-,rfl⟩:=hv1
    obtain⟨rfl,-,rfl⟩:=hv2
    replace hcell1:=HK.out.allCells hcell1
    replace hcell2:=HK.out.allCells hcell2
    have hkb:k<b.length:=by rw[←Hl.out];exact hlt
    have hne:=u8_ne (a.getD k 0) (b.getD k 0)
    generalize hx:a.getD k 0=x at *
    generalize hy:b.getD k 0=y at *
    have HX:=hide hx
    have HY:=hide hy
    clear hx hy
    by_cases hxy:x=y
    ·rw[show(!(x==y))=false by simpa using hxy]at hne
     have Hxy:=hide hxy
     clear hxy
     go_wp2
     go_quiet(fail)
     go_wp2
     go_roundw
     case rel=>
      refine⟨k+1,by omega,by go_num,fun j hj=> ?_,HK.out.drewN _⟩
      rcases Nat.lt_or_ge j k with h1|h1
      ·exact HL.out j h1
      ·obtain rfl :j=k:=by omega
       rw[HX.out,HY.out,Hxy.out]
     case measure=>simp[intOf];omega
    ·rw[show(!(x==y))=true by simpa using hxy]at hne
     have Hxy:=hide hxy
     clear hxy
     go_wp2
     go_quiet(fail)
     go_wp2
     go_ret
     refine⟨ret_bool ?_,HK.out.drewN _⟩
     symm
     rw[decide_eq_false_iff_not]
     intro hab
     exact Hxy.out (by rw[←HX.out,←HY.out,hab])
   ·go_wp2
    go_ret
    refine⟨ret_bool ?_,HK.out⟩
    symm
    rw[decide_eq_true_iff,list_eq_iff Hl.out]
    intro j hj
    exact HL.out j (by omega)
 ·have hlb:(((a.length:Nat):Int) !=((b.length:Nat):Int))=true:=by simp;omega
  go_enter Tryz.func190,Tryz.ntmps190
  have Hl:=hide hl
  clear hl
  go_wp2
  go_ret
  refine⟨ret_bool ?_,Kp.refl _ _⟩
  symm
  rw[decide_eq_false_iff_not]
  rintro rfl
  exact Hl.out rfl

end Go.Proofs.YtdeplgkhmebalaaGreatDoor.Rf

set_option linter.unusedSimpArgs false
set_option linter.unusedVariables false
set_option maxHeartbeats 1000000
namespace Go.Proofs.YtdeplgkhmebalaaGreatDoor.Rf
open Go.RowKit

def offM (stack types:List UInt8):List UInt8×Bool:=
 if stack.length<types.length then (stack,false)else (stack.take (stack.length -types.length),decide (stack.drop (stack.length -types.length)=types))

theorem _root_.Go.Proofs.YtdeplgkhmebalaaGreatDoor.BytesAt.takeR {w:World} {a o len cap:Nat} {l:List UInt8} (h:BytesAt w (.slice (some ⟨a,o,none⟩) len cap) l) (n:Nat) (hn:n≤l.length):BytesAt w (.slice (some ⟨a,o,none⟩) n cap) (l.take n):=by
 rcases h.cases with⟨hv,-⟩|⟨a',o',cap',hv,hc,hcell⟩
 ·cases hv
 ·cases hv
  have hlen:(l.take n).length=n:=by simp;omega
  have :=BytesAt.mk (w:=w) (a:=a) (o:=o) (cap:=cap) (l:=l.take n) (by omega) (fun k hk=>by
   rw[hcell k (by omega)]
   simp only[List.getD,List.getElem?_take,if_pos (show k<n by omega)])
  rwa[hlen]at this
theorem _root_.Go.Proofs.YtdeplgkhmebalaaGreatDoor.BytesAt.drop {w:World} {a o len cap:Nat} {l:List UInt8} (h:BytesAt w (.slice (some ⟨a,o,none⟩) len cap) l) (n:Nat) (hn:n≤l.length):BytesAt w (.slice (some ⟨a,o+n,none⟩) (l.length -n) (cap -n)) (l.drop n):=by
 rcases h.cases with⟨hv,-⟩|⟨a',o',cap',hv,hc,hcell⟩
 ·cases hv
 ·cases hv
  have hlen:(l.drop n).length=l.length -n:=by simp
  have :=BytesAt.mk (w:=w) (a:=a) (o:=o+n) (cap:=cap -n) (l:=l.drop n) (by omega) (fun k hk=>by
   rw[Nat.add_assoc,hcell (n+k) (by omega)]
   simp only[List.getD,List.getElem?_drop])
  rwa[hlen]at this

theorem _root_.Go.Proofs.YtdeplgkhmebalaaGreatDoor.BytesAt.dropAll {w:World} {a o len n:Nat} {l:List UInt8} (h:BytesAt w (.slice (some ⟨a,o,none⟩) len n) l):BytesAt w (.slice (some ⟨a,o,none⟩) 0 0) (l.drop n):=by
 rcases h.cases with⟨hv,-⟩|⟨a',o',cap',hv,hc,hcell⟩
 ·cases hv
 ·cases hv
  rw[List.drop_of_length_le hc]
  exact BytesAt.mk (l:=[]) (Nat.le_refl _) (fun k hk=>by simp at hk)

theorem off_any {w:World} {va vb:Value} {a b:List UInt8} (ha:BytesAt w va a) (hb:BytesAt w vb b) (hla:a.length≤1000000000) (hlb:b.length≤1000000000):
  Calls Tryz.prog 193 #[va,vb] w fun r w'=> ∃v,r= .returned (.tuple #[v,.bool (offM a b).2])∧BytesAt w' v (offM a b).1∧(∀k,v.ownBlock=some k→va.ownBlock=some k)∧Kp no w w':=by
 have HA:=hide ha
 have HB:=hide hb
 rcases ha.cases with⟨rfl,rfl⟩|⟨a1,o1,cap1,rfl,hc1,-⟩
 ·obtain⟨adb,capb,rfl,hcb⟩:=hb.shape
  clear ha hb
  by_cases hb0:0<b.length
  ·have hM:offM [] b=([],false):=by rw[offM,if_pos (by simpa using hb0)]
   go_enter Tryz.func193,Tryz.ntmps193
   go_wp2
   go_ret2
   rw[hM]
   exact⟨_,rfl,BytesAt.nil _,fun k hk=>hk,Kp.refl _ _⟩
  ·obtain rfl :b=[]:=List.length_eq_zero_iff.1 (by omega)
   clear hb0 hlb
   go_enter Tryz.func193,Tryz.ntmps193
   go_wp2_with fail
   refine(equal_any HA.out HB.out (by simp)).mono ?_
   rintro e w1 ⟨rfl,k1⟩
   go_wp2
   go_ret2
   exact⟨_,rfl,BytesAt.nil _,fun k hk=>hk,k1⟩
 ·obtain⟨adb,capb,rfl,hcb⟩:=hb.shape
  clear ha hb
  by_cases hab:a.length<b.length
  ·have hM:offM a b=(a,false):=by rw[offM,if_pos hab]
   have HM:=hide hM
   clear hM
   go_enter Tryz.func193,Tryz.ntmps193
   go_wp2
   go_ret2
   rw[HM.out]
   exact⟨_,rfl,HA.out,fun k hk=>hk,Kp.refl _ _⟩
  ·have hM:offM a b=(a.take (a.length -b.length),decide (a.drop (a.length -b.length)=b)):=by rw[offM,if_neg hab]
   have HM:=hide hM
   have hba:b.length≤a.length:=by omega
   have hsub:a.length -b.length≤a.length:=by omega
   clear hM hab
   obtain⟨n,hn⟩: ∃n:Nat,a.length -b.length=n:=⟨_,rfl⟩
   have hz:(a.length:Int) -b.length=n:=by omega
   have hn1:n≤a.length:=by omega
   have hnc:n≤cap1:=by omega
   have Hn:=hide hn
   clear hn
   by_cases hcn:cap1=n
   ·subst hcn
    go_enter Tryz.func193,Tryz.ntmps193
    go_wp2_with fail
    refine(equal_any (a:=a.drop cap1) (b:=b) (BytesAt.dropAll HA.out) HB.out (by simp;omega)).mono ?_
    rintro e w1 ⟨rfl,k1⟩
    have HA1:=hide (HA.out.kp k1 (fun _ _ h=>h))
    go_wp2
    go_ret2
    rw[HM.out,Hn.out]
    exact⟨_,rfl,BytesAt.takeR HA1.out cap1 hn1,fun k hk=>hk,k1⟩
   ·go_enter Tryz.func193,Tryz.ntmps193
    go_wp2_with fail
    refine(equal_any (a:=a.drop n) (b:=b) (BytesAt.drop HA.out n hn1) HB.out (by simp;omega)).mono ?_
    rintro e w1 ⟨rfl,k1⟩
    have HA1:=hide (HA.out.kp k1 (fun _ _ h=>h))
    go_wp2
    go_ret2
    rw[HM.out,Hn.out]
    exact⟨_,rfl,BytesAt.takeR HA1.out n hn1,fun k hk=>hk,k1⟩

end Go.Proofs.YtdeplgkhmebalaaGreatDoor.Rf

set_option linter.unusedSimpArgs false
set_option linter.unusedVariables false
set_option maxHeartbeats 1000000
namespace Go.Proofs.YtdeplgkhmebalaaGreatDoor.Rf
open Go.RowKit

def Sep (pb:Nat) (v:Value):Prop:= ∀b,v.ownBlock=some b→b≠pb
theorem Sep.nil (pb:Nat):Sep pb (.slice none 0 0):=fun b h=>by cases h
theorem _root_.Go.Proofs.YtdeplgkhmebalaaGreatDoor.BytesAt.one {w w':World} {pb:Nat} {v:Value} {l:List UInt8} (h:BytesAt w v l) (s:Sep pb v) (k:Kp (one pb) w w'):BytesAt w' v l:=h.kp k (fun b hb e=>s b hb e)

structure LabelsAt (w:World) (pb:Nat) (v:Value) (labels:List (List UInt8)):Prop where
 sep:Sep pb v
 row: ∃cells:List Value,RowAt w v 1 labels.length cells∧ ∀(k:Nat) (l:List UInt8),labels[k]? =some l→ ∃lv,cells[k]? =some lv∧BytesAt w lv l∧Sep pb lv
theorem LabelsAt.kp {w w':World} {pb:Nat} {v:Value} {labels:List (List UInt8)} (h:LabelsAt w pb v labels) (k:Kp (one pb) w w'):LabelsAt w' pb v labels:=by
 obtain⟨hs,cells,hr,hl⟩:=h
 refine⟨hs,cells,hr.kp k (fun b hb e=>hs b hb e),fun j l hj=> ?_⟩
 obtain⟨lv,h1,h2,h3⟩:=hl j l hj
 exact⟨lv,h1,h2.one h3 k,h3⟩

theorem u_le (E:PE) (most:Int) (σ:PS) (h:badM (uM E most σ).2=false):((uM E most σ).1:Int)≤most:=by
 unfold uM at *
 simp only at *
 split at h
 ·simp_all
 ·rename_i hb
  rw[if_neg hb]
  split at h
  ·cases hq:(numberM E 5 σ).2<;>simp_all[failM,badM]
  ·rename_i hc
   rw[if_neg hc]
   simp only[not_or,Int.not_lt]at hc
   exact hc.2.2
theorem u_sticky {E:PE} {most:Int} {σ:PS} (h:badM σ=true):uM E most σ=(0,σ):=by
 unfold uM;simp[number_sticky h,h]

def labelM (E:PE) (labels:List (List UInt8)) (σ:PS):(Nat×List UInt8)×PS:=
 let r:=uM E ((labels.length:Int) -1) σ
 if badM r.2 then ((0,[]),r.2)else ((r.1,labels.getD (labels.length -1 -r.1) []),r.2)

theorem label_any {w0 w:World} {pb:Nat} {E:PE} {σ:PS} (h:PSt w pb E σ) {v:Value} {labels:List (List UInt8)} (hl:LabelsAt w0 pb v labels) (k0:Kp (one pb) w0 w) (hn:labels.length≤1000):
  Calls Tryz.prog 215 #[ptr pb,v] w fun r w'=> ∃lv,r= .returned (.tuple #[.int .i64 (labelM E labels σ).1.1,lv])∧BytesAt w0 lv (labelM E labels σ).1.2∧Sep pb lv∧PSt w' pb E (labelM E labels σ).2∧Kp (one pb) w w':=by
 have hM:labelM E labels σ=(if badM (uM E ((labels.length:Int) -1) σ).2 then ((0,[]),(uM E ((labels.length:Int) -1) σ).2)else (((uM E ((labels.length:Int) -1) σ).1,labels.getD (labels.length -1 - (uM E ((labels.length:Int) -1) σ).1) []),(uM E ((labels.length:Int) -1) σ).2)):=rfl
 generalize labelM E labels σ=R at *
 have hu:=u_any h ((labels.length:Int) -1)
 have hle:=u_le E ((labels.length:Int) -1) σ
 obtain⟨cells,hrow,hcells⟩:=hl.row
 obtain⟨ad,cap,rfl,hcap⟩:=hrow.shape
 generalize(uM E ((labels.length:Int) -1) σ).1=n at *
 generalize(uM E ((labels.length:Int) -1) σ).2=σ1 at *
 have HM:=hide hM
 have Hu:=hide hu
 have Hle:=hide hle
 have HR:=hide hrow
 have HC:=hide hcells
 have HL:=hide hl
 clear hM hu hle hrow hcells hl h
 go_enter Tryz.func215,Tryz.ntmps215
 go_wp2_with fail
 refine Hu.out.mono ?_
 rintro e w1 ⟨rfl,h1,k1⟩
 have H1:=hide h1
 clear h1 Hu
 have hM:=HM.out
 by_cases hbd:badM σ1=true
 ·rw[if_pos hbd]at hM
  have HM1:=hide hM
  clear hM HM
  go_wp2_with fail
  refine(bad_any H1.out).mono ?_
  rintro e w2 ⟨rfl,rfl⟩
  go_wp2
  go_ret2
  rw[HM1.out]
  exact⟨_,rfl,BytesAt.nil _,Sep.nil _,H1.out,k1⟩
 ·rw[if_neg hbd]at hM
  have HM1:=hide hM
  clear hM HM
  simp only[Bool.not_eq_true]at hbd
  have hnle:=Hle.out hbd
  have hn1:n<labels.length:=by omega
  obtain⟨lv,hcl,hbl,hsl⟩:=HC.out (labels.length -1 -n) _ (List.getElem?_eq_getElem (by omega))
  obtain⟨a,o,cap',hv,_,hcell⟩:=(HR.out.kp (k0.trans k1) (fun b hb e=>HL.out.sep b hb e)).get hcl
  simp only[Value.slice.injEq]at hv
  obtain⟨rfl,-,rfl⟩:=hv
  have hg:labels.getD (labels.length -1 -n) []=labels[labels.length -1 -n]'(by omega):=by simp[List.getD,List.getElem?_eq_getElem (show labels.length -1 -n<labels.length by omega)]
  have Hg:=hide hg
  have Hbl:=hide hbl
  have Hsl:=hide hsl
  clear hg hbl hsl hcl Hle
  obtain⟨q,hq⟩: ∃q:Nat,labels.length -1 -n=q:=⟨_,rfl⟩
  have hz:(labels.length:Int) -1 -n=q:=by omega
  have hq1:q<labels.length:=by omega
  rw[hq]at hcell
  have Hq:=hide hq
  clear hq
  go_wp2_with fail
  refine(bad_any H1.out).mono ?_
  rintro e w2 ⟨rfl,rfl⟩
  go_wp2
  go_quiet(fail)
  go_wp2
  go_ret2
  rw[HM1.out,Hg.out]
  exact⟨_,rfl,Hbl.out,Hsl.out,H1.out.keep ((Kp.refl no _).drewN _) (fun _ _ h=>h),k1.drewN _⟩

end Go.Proofs.YtdeplgkhmebalaaGreatDoor.Rf

set_option linter.unusedSimpArgs false
set_option linter.unusedVariables false
namespace Go.Proofs.YtdeplgkhmebalaaGreatDoor.Rf
open Go.RowKit

structure Env where
 locs:List UInt8
 funcs:List (List UInt8×List UInt8)
 globs:List (UInt8×UInt8×Nat)

structure FuncsAt (w:World) (pb:Nat) (v:Value) (l:List (List UInt8×List UInt8)):Prop where
 sep:Sep pb v
 row: ∃cells:List Value,RowAt w v 4 l.length cells∧ ∀(k:Nat) (x:List UInt8×List UInt8),l[k]? =some x→ ∃pv rv,cells[k*4]? =some pv∧cells[k*4+1]? =some rv∧BytesAt w pv x.1∧Sep pb pv∧BytesAt w rv x.2∧Sep pb rv
structure GlobsAt (w:World) (pb:Nat) (v:Value) (l:List (UInt8×UInt8×Nat)):Prop where
 sep:Sep pb v
 row: ∃cells:List Value,RowAt w v 3 l.length cells∧ ∀(k:Nat) (x:UInt8×UInt8×Nat),l[k]? =some x→cells[k*3]? =some (.int .u8 x.1.toNat)∧cells[k*3+1]? =some (.int .u8 x.2.1.toNat)∧cells[k*3+2]? =some (.int .u64 x.2.2)
theorem FuncsAt.kp {w w':World} {pb:Nat} {v:Value} {l:List (List UInt8×List UInt8)} (h:FuncsAt w pb v l) (k:Kp (one pb) w w'):FuncsAt w' pb v l:=by
 obtain⟨hs,cells,hr,hl⟩:=h
 refine⟨hs,cells,hr.kp k (fun b hb e=>hs b hb e),fun j x hj=> ?_⟩
 obtain⟨pv,rv,h1,h2,h3,h4,h5,h6⟩:=hl j x hj
 exact⟨pv,rv,h1,h2,h3.one h4 k,h4,h5.one h6 k,h6⟩
theorem GlobsAt.kp {w w':World} {pb:Nat} {v:Value} {l:List (UInt8×UInt8×Nat)} (h:GlobsAt w pb v l) (k:Kp (one pb) w w'):GlobsAt w' pb v l:=by
 obtain⟨hs,cells,hr,hl⟩:=h
 exact⟨hs,cells,hr.kp k (fun b hb e=>hs b hb e),hl⟩

structure EnvAt (w:World) (pb:Nat) (E:PE) (G:Env):Prop where
 loc:BytesAt w E.loc G.locs
 locS:Sep pb E.loc
 mod: ∃(mb:Nat) (tv fv gv:Value) (pages:Int),E.m=ptr mb∧mb≠pb∧w.heap[mb]? =some (.cells #[tv,fv,gv,.int .i64 pages] 149)∧FuncsAt w pb fv G.funcs∧GlobsAt w pb gv G.globs
 locL:G.locs.length≤1000
 funL:G.funcs.length≤1000
 funLL: ∀x∈G.funcs,x.1.length≤1000∧x.2.length≤1000
 gloL:G.globs.length≤1000
theorem EnvAt.kp {w w':World} {pb:Nat} {E:PE} {G:Env} (h:EnvAt w pb E G) (k:Kp (one pb) w w'):EnvAt w' pb E G:=by
 obtain⟨mb,tv,fv,gv,pages,h1,h2,h3,h4,h5⟩:=h.mod
 exact⟨h.loc.one h.locS k,h.locS,⟨mb,tv,fv,gv,pages,h1,h2,k.blk h3 h2,h4.kp k,h5.kp k⟩,h.locL,h.funL,h.funLL,h.gloL⟩

structure IR where
 n:Nat
 labels:List Int
 value:Nat
 take:List UInt8
 put:List UInt8
 ok:Bool

abbrev nilS:Value:= .slice none 0 0
abbrev nodeV (op:Nat) (n:Nat) (lab body els:Value) (value:Int):Value:= .agg #[.int .u8 op,.int .u64 n,lab,body,els,.int .i64 value]

def IntsAt (w:World) (v:Value) (l:List Int):Prop:=RowAt w v 1 l.length (l.map (Value.int .i64))

def Held (w0 w w':World) (pb:Nat) (v:Value) (l:List UInt8):Prop:=Sep pb v∧BytesAt w' v l∧(BytesAt w0 v l∨ ∀b,v.ownBlock=some b→w.heap.size≤b)
def HeldI (w w':World) (pb:Nat) (v:Value) (l:List Int):Prop:=Sep pb v∧IntsAt w' v l∧ ∀b,v.ownBlock=some b→w.heap.size≤b

def Told (w0 w w':World) (pb:Nat) (op:Nat) (R:IR) (r:Ending):Prop:=
 ∃lab tv pv,r= .returned (.tuple #[nodeV op R.n lab nilS nilS R.value,tv,pv,.bool R.ok])∧HeldI w w' pb lab R.labels∧Held w0 w w' pb tv R.take∧Held w0 w w' pb pv R.put

def plain0 (op:Nat):List UInt8×List UInt8:=
 if op=63 then ([],[127])
 else if op=64∨op=69∨(103≤op∧op≤105)then ([127],[127])
 else if (70≤op∧op≤79)∨(106≤op∧op≤120)then ([127,127],[127])
 else if op=80∨op=167 then ([126],[127])
 else if 81≤op∧op≤90 then ([126,126],[127])
 else if (121≤op∧op≤123)∨op=224 then ([126],[126])
 else if 124≤op∧op≤138 then ([126,126],[126])
 else if op=172∨op=173 then ([127],[126])
 else ([126,126],[])

theorem heap_alloc_at {w:World} {k:Nat} (o:Obj) (h:k=w.heap.size):(w.alloc o).heap[k]? =some o:=by subst h;exact heap_alloc_new w o
theorem _root_.Go.Proofs.YtdeplgkhmebalaaGreatDoor.BytesAt.blk {w:World} {g:Nat} {t:TypeId} {l:List UInt8} (h:w.heap[g]? =some (.cells (byteVals l).toArray t)):BytesAt w (.slice (some ⟨g,0,none⟩) l.length l.length) l:=
 BytesAt.mk (Nat.le_refl _) (fun k hk=>by simp[World.cell?,h,List.getD,List.getElem?_eq_getElem hk])
theorem sep_new {w:World} {pb:Nat} (h:pb<w.heap.size) (d o len cap:Nat):Sep pb (.slice (some ⟨w.heap.size+d,o,none⟩) len cap):=fun b hb=>by
 simp only[Value.ownBlock,Option.some.injEq]at hb;omega

theorem six (w:World) (a0 a1 a2 a3 a4 a5:Obj):
  (((((((w.alloc a0).alloc a1).alloc a2).alloc a3).alloc a4).alloc a5).heap[w.heap.size+1+1]? =some a2∧
  ((((((w.alloc a0).alloc a1).alloc a2).alloc a3).alloc a4).alloc a5).heap[w.heap.size+1+1+1]? =some a3∧
  ((((((w.alloc a0).alloc a1).alloc a2).alloc a3).alloc a4).alloc a5).heap[w.heap.size+1+1+1+1]? =some a4∧
  ((((((w.alloc a0).alloc a1).alloc a2).alloc a3).alloc a4).alloc a5).heap[w.heap.size+1+1+1+1+1]? =some a5)∧
  Kp no w ((((((w.alloc a0).alloc a1).alloc a2).alloc a3).alloc a4).alloc a5):=
 ⟨⟨heap_alloc_old (heap_alloc_old (heap_alloc_old (heap_alloc_at _ (by simp)))),heap_alloc_old (heap_alloc_old (heap_alloc_at _ (by simp))),heap_alloc_old (heap_alloc_at _ (by simp)),heap_alloc_at _ (by simp)⟩,
  ((((((Kp.refl no w).alloc _).alloc _).alloc _).alloc _).alloc _).alloc _⟩

theorem PSt.no {w w':World} {pb:Nat} {E:PE} {σ:PS} (h:PSt w pb E σ) (k:Kp no w w'):PSt w' pb E σ:=h.keep k (fun _ _ h=>h)
theorem PSt.lt {w:World} {pb:Nat} {E:PE} {σ:PS} (h:PSt w pb E σ):pb<w.heap.size:=by
 obtain⟨_,_,_,_,hb,_⟩:=h.obj
 exact lt_of_blk hb
theorem IntsAt.nil (w:World):IntsAt w nilS []:=RowAt.nil w 1
theorem labNil (w w':World) (pb:Nat):HeldI w w' pb nilS []:=⟨Sep.nil _,IntsAt.nil _,fun b hb=>by cases hb⟩
theorem heldNil (w0 w w':World) (pb:Nat):Held w0 w w' pb nilS []:=⟨Sep.nil _,BytesAt.nil _,.inl (BytesAt.nil _)⟩
theorem heldNew {w0 w w':World} {pb g o len cap:Nat} {l:List UInt8} (hpb:pb<w.heap.size) (h:BytesAt w' (.slice (some ⟨g,o,none⟩) len cap) l) (hg:w.heap.size≤g):Held w0 w w' pb (.slice (some ⟨g,o,none⟩) len cap) l:=
 ⟨fun b hb=>by simp only[Value.ownBlock,Option.some.injEq]at hb;omega,h,.inr (fun b hb=>by simp only[Value.ownBlock,Option.some.injEq]at hb;omega)⟩
theorem heldOwn {w0 w w':World} {pb base n:Nat} {v:Value} {e:TypeId} {xs:List Value} {l:List UInt8} (hpb:pb<w.heap.size) (ho:w'.ownsRow base e 1 v n xs) (h:BytesAt w' v l) (hg:w.heap.size≤base):Held w0 w w' pb v l:=
 ⟨fun b hb=>by have :=own_new ho b hb;omega,h,.inr (fun b hb=>by have :=own_new ho b hb;omega)⟩
theorem heldOld {w0 w w':World} {pb:Nat} {v:Value} {l:List UInt8} (hs:Sep pb v) (h:BytesAt w0 v l) (k:Kp (one pb) w0 w'):Held w0 w w' pb v l:=⟨hs,h.one hs k,.inl h⟩

end Go.Proofs.YtdeplgkhmebalaaGreatDoor.Rf
