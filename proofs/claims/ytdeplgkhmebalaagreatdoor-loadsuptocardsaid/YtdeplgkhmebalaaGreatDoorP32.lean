/- The document's reader: 'head'. -/
import Derived.Test.YtdeplgkhmebalaaGreatDoorP31
import Derived.Test.YtdeplgkhmebalaaGreatDoorP12
import Derived.Deep.CutBlock
import Derived.Deep.DeepCutAuto

set_option linter.unusedSimpArgs false
set_option linter.unusedVariables false
set_option maxHeartbeats 4000000
set_option maxRecDepth 100000
namespace Go.Proofs.YtdeplgkhmebalaaGreatDoor.Rf
open Go.RowKit

def Tied {α:Type} (one:PS→α×PS) (n k:Nat) (l:List α) (σ:PS) (R:List α×PS):Prop:=(badM σ=false→loopR one (n -k) l σ=R)∧(badM σ=true→R.2=σ)
theorem loop_bad' {α:Type} {one:PS→α×PS} {n:Nat} {l:List α} {σ:PS} (h:badM σ=true):loopR one n l σ=(l,σ):=by
 cases n with
 |zero=>rfl
 |succ n=>rw[loopR,if_pos h]
theorem Tied.start {α:Type} (one:PS→α×PS) (n:Nat) (σ:PS):Tied one n 0 [] σ (loopR one n [] σ):=⟨fun _=>rfl,fun h=>by rw[loop_bad' h]⟩
theorem Tied.step {α:Type} {one:PS→α×PS} {n k:Nat} {l l':List α} {σ:PS} {R:List α×PS} (h:Tied one n k l σ R) (hk:k<n) (hb:badM σ=false) (hl:badM (one σ).2=false→l'=l++[(one σ).1]):Tied one n (k+1) l' (one σ).2 R:=by
 have h1:=h.1 hb
 rw[show n -k=(n - (k+1))+1 by omega,loopR,if_neg (by rw[hb];decide)]at h1
 refine⟨fun hg=>by rw[hl hg];exact h1,fun hg=> ?_⟩
 rw[loop_bad' hg]at h1
 rw[←h1]
theorem Tied.fin {α:Type} {one:PS→α×PS} {n k:Nat} {l:List α} {σ:PS} {R:List α×PS} (h:Tied one n k l σ R) (hb:badM σ=true∨n≤k):R.2=σ∧(badM σ=false→R.1=l):=by
 cases hq:badM σ with
 |true=>exact⟨h.2 hq,fun e=>by cases e⟩
 |false=>
  have h1:=h.1 hq
  rcases hb with hb|hb
  ·rw[hq]at hb;cases hb
  ·rw[show n -k=0 by omega,loopR]at h1
   rw[←h1]
   exact⟨rfl,fun _=>rfl⟩
def magK (E:PE):Nat→PS→PS
 |0,σ=>magicR E σ
 |1,σ=>(needM E 1 1 1 (needM E 75 75 75 (needM E 84 84 84 σ).2).2).2
 |2,σ=>(needM E 1 1 1 (needM E 75 75 75 σ).2).2
 |3,σ=>(needM E 1 1 1 σ).2
 |_,σ=>σ
theorem need_sticky {E:PE} {a b c:UInt8} {σ:PS} (h:badM σ=true):(needM E a b c σ).2=σ:=by
 cases σ with
 |ok i=>cases h
 |error e=>exact need_err E a b c e
theorem mag_bad {E:PE} {σ:PS} (h:badM σ=true) (k:Nat):magK E k σ=σ:=by
 match k with
 |0=>show magicR E σ=σ;unfold magicR;rw[need_sticky h,need_sticky h,need_sticky h,need_sticky h]
 |1=>show(needM E 1 1 1 (needM E 75 75 75 (needM E 84 84 84 σ).2).2).2=σ;rw[need_sticky h,need_sticky h,need_sticky h]
 |2=>show(needM E 1 1 1 (needM E 75 75 75 σ).2).2=σ;rw[need_sticky h,need_sticky h]
 |3=>show(needM E 1 1 1 σ).2=σ;rw[need_sticky h]
 |k+4=>rfl
def magB:Nat→UInt8
 |0=>83
 |1=>84
 |2=>75
 |_=>1
theorem mag_step {E:PE} {σ:PS} {k:Nat} (hk:k<4):magK E (k+1) (needM E (magB k) (magB k) (magB k) σ).2=magK E k σ:=by
 match k,hk with
 |0,_=>rfl
 |1,_=>rfl
 |2,_=>rfl
 |3,_=>rfl
theorem enters_need: ∀args w,(callFunc 157 args).run Tryz.prog w= .ok (.enter 157 args) w:=enters_of Tryz.func157 (by kernel_rfl) rfl
theorem enters_u: ∀args w,(callFunc 158 args).run Tryz.prog w= .ok (.enter 158 args) w:=enters_of Tryz.func158 (by kernel_rfl) rfl

theorem info_of {P:Program} {t:TypeId} {n b:Nat} (h:(P.info? t).map (fun i=>(i.zero.map (fun z=>z.cells.size),i.size,i.bytes))=some (some n,n,b)): ∃i z,P.info? t=some i∧i.zero=some z∧i.size=n∧i.bytes=b∧z.cells.size=n:=by
 cases hi:P.info? t with
 |none=>rw[hi]at h;cases h
 |some i=>
  rw[hi]at h
  simp only[Option.map_some,Option.some.injEq,Prod.mk.injEq]at h
  obtain⟨h1,h2,h3⟩:=h
  cases hz:i.zero with
  |none=>rw[hz]at h1;cases h1
  |some z=>
   rw[hz]at h1
   simp only[Option.map_some,Option.some.injEq]at h1
   exact⟨i,z,rfl,hz,h2,h3,h1⟩
theorem info_Type: ∃i z,Tryz.prog.info? 190=some i∧i.zero=some z∧i.size=2∧i.bytes=48∧z.cells.size=2:=info_of (by kernel_rfl)
theorem info_Func: ∃i z,Tryz.prog.info? 193=some i∧i.zero=some z∧i.size=4∧i.bytes=96∧z.cells.size=4:=info_of (by kernel_rfl)
theorem info_Global: ∃i z,Tryz.prog.info? 198=some i∧i.zero=some z∧i.size=3∧i.bytes=16∧z.cells.size=3:=info_of (by kernel_rfl)
theorem Bl.new {w:World} {base b1:Nat} {tv fv gv v:Value} {l:List UInt8} {e:TypeId} (ho:w.ownsRow b1 e 1 v l.length (byteVals l)) (hb:base≤b1) (ht: ∀b,tv.ownBlock=some b→b<b1) (hf: ∀b,fv.ownBlock=some b→b<b1) (hg: ∀b,gv.ownBlock=some b→b<b1):Bl w base tv fv gv v l:=by
 refine⟨RowAt.own ho,fun b hb'=> ?_⟩
 obtain⟨h1,h2⟩:=ho.lt b hb'
 exact⟨by omega,h2,fun e=>by have :=ht b e;omega,fun e=>by have :=hf b e;omega,fun e=>by have :=hg b e;omega⟩
theorem HdSt.rows {w:World} {pb mb base:Nat} {E:PE} {tv fv gv:Value} {pages:Int} {ts fs:List (List UInt8×List UInt8)} {gs:List (UInt8×UInt8×Nat)} {σ:PS} (h:HdSt w pb mb base E tv fv gv pages ts fs gs σ):(∀b,tv.ownBlock=some b→b<w.heap.size)∧(∀b,fv.ownBlock=some b→b<w.heap.size)∧(∀b,gv.ownBlock=some b→b<w.heap.size):=by
 obtain⟨c1,o1,-⟩:=h.town
 obtain⟨c2,o2,-⟩:=h.fown
 obtain⟨c3,o3,-⟩:=h.gown
 exact⟨fun b hb=>(o1.lt b hb).2,fun b hb=>(o2.lt b hb).2,fun b hb=>(o3.lt b hb).2⟩
theorem HdSt.setP {w:World} {pb mb base:Nat} {E:PE} {tv fv gv:Value} {pages:Int} {ts fs:List (List UInt8×List UInt8)} {gs:List (UInt8×UInt8×Nat)} {σ:PS} (h:HdSt w pb mb base E tv fv gv pages ts fs gs σ) (p:Int):HdSt (w.setCell ⟨mb,3,none⟩ (.int .i64 p)) pb mb base E tv fv gv p ts fs gs σ:=by
 have hmb:=h.mbl
 have k:Kp (one mb) w (w.setCell ⟨mb,3,none⟩ (.int .i64 p)):=(Kp.refl _ _).set1 _ _
 have hz:=k.size
 have hbs:=h.bs
 obtain⟨c1,o1,r1⟩:=h.town
 obtain⟨c2,o2,r2⟩:=h.fown
 obtain⟨c3,o3,r3⟩:=h.gown
 have ho: ∀{e:TypeId} {sz n:Nat} {v:Value} {xs:List Value},w.ownsRow base e sz v n xs→(w.setCell ⟨mb,3,none⟩ (.int .i64 p)).ownsRow base e sz v n xs:=fun o=>k.own o (fun b hb e=>by have :=own_new o b hb;unfold one at e;omega)
 have hr: ∀{sz:Nat} {l:List (List UInt8×List UInt8)} {cells:List Value},TRow w base tv fv gv sz l cells→TRow (w.setCell ⟨mb,3,none⟩ (.int .i64 p)) base tv fv gv sz l cells:=fun r=>r.on k (fun b hb _ _ _ e=>by unfold one at e;omega) (.inl rfl) (.inl rfl) (.inl rfl)
 exact⟨h.st.off k (fun e=>h.ne e.symm) (fun b hb e=>h.bm (by rw[hb,show b=mb from e])),h.pbl,hmb,h.ne,h.bm,by omega,heap_setCell h.blk _,⟨c1,ho o1,hr r1⟩,⟨c2,ho o2,hr r2⟩,⟨c3,ho o3,r3⟩,h.tf,h.fg,h.tl,h.tll,h.fl,h.fll,h.gl⟩
theorem times_sticky {α:Type} {E:PE} {most:Int} {one:PS→α×PS} {σ:PS} (h:badM (timesR E most one σ).2=false):badM σ=false:=by
 cases σ with
 |ok i=>rfl
 |error e=>rw[times_err]at h;cases h
theorem u_good {E:PE} {most:Int} {σ:PS} (h:badM (uM E most σ).2=false):badM σ=false:=by
 cases hq:badM σ with
 |false=>rfl
 |true=>rw[u_sticky hq]at h;simp only at h;rw[hq]at h;cases h
theorem u_most (E:PE) (m:Nat) (σ:PS):(uM E m σ).1≤m:=by
 cases hb:badM (uM E m σ).2 with
 |false=>have :=u_le E m σ hb;omega
 |true=>
  have :(uM E m σ).1=0:=by
   unfold uM at hb⊢
   simp only at hb⊢
   split
   ·rfl
   ·split
    ·rfl
    ·rename_i h1 h2
     rw[if_neg h1,if_neg h2]at hb
     exact absurd hb h1
  omega

theorem head_any {w:World} {pb mb base:Nat} {E:PE} {σ:PS} (h:HdSt w pb mb base E (.slice none 0 0) (.slice none 0 0) (.slice none 0 0) 0 [] [] [] σ) (hbase:base=w.heap.size) (hm:E.m=ptr mb):
  Calls Tryz.prog 117 #[ptr pb] w fun r w'=>r= .returned (.tuple #[])∧ ∃tv fv gv pages ts fs gs,HdSt w' pb mb base E tv fv gv pages ts fs gs (headR E σ).2∧(badM (headR E σ).2=false→(headR E σ).1.1=ts∧(headR E σ).1.2.1=fs∧(headR E σ).1.2.2.1=gs∧((headR E σ).1.2.2.2:Int)=pages)∧Kp (fun b=>b=pb∨b=mb) w w':=by
 have H:=hide h
 have HBase:=hide hbase
 clear h hbase
 go_enter Tryz.func117,Tryz.ntmps117
 go_upto_block 0 with fail
 go_cut [3] (fun _ wx=>PSt wx pb E (magicR E σ)∧Kp (one pb) w wx)
 case first =>
  go_wp2_with fail
  go_loopw [3] (fun i wr=> ∃(k:Nat) (σ':PS),k≤4∧i= .int .i64 k∧PSt wr pb E σ'∧Kp (one pb) w wr∧magK E k σ'=magicR E σ) (fun i _=>4 - (intOf i).toNat)
  case atStart=>exact⟨0,σ,by omega,rfl,H.out.st,Kp.refl _ _,rfl⟩
  case round=>
   obtain⟨k,σ',hk,rfl,hst,hkp,hM⟩:=hrel
   have HS:=hide hst
   have HK:=hide hkp
   have HM:=hide hM
   clear hst hkp hM
   by_cases hlt:k<4
   ·by_cases hbd:badM σ'=true
    ·go_wp2_with fail
     refine(bad_any HS.out).mono ?_
     rintro e w1 ⟨rfl,rfl⟩
     go_wp2_with fail
     go_meet
     have hM:=HM.out
     rw[mag_bad hbd]at hM
     rw[←hM]
     exact⟨HS.out,HK.out⟩
    ·simp only[Bool.not_eq_true]at hbd
     go_wp2_with fail
     refine(bad_any HS.out).mono ?_
     rintro e w1 ⟨rfl,rfl⟩
     go_wp2_with fail
     have hidx:(#[83,84,75,1]:Array UInt8)[k]? =some (magB k):=by
      match k,hlt with
      |0,_=>rfl
      |1,_=>rfl
      |2,_=>rfl
      |3,_=>rfl
     have hix: ∀hh,(({data:= #[83,84,75,1]}:ByteArray)[k]'hh)=magB k:=fun hh=>by
      have h1:=Array.getElem?_eq_some_iff.1 hidx
      exact h1.2
     obtain⟨S,hSd⟩: ∃S:World→Prop,S=fun w'=>Kp no w1 w':=⟨_,rfl⟩
     have hSk: ∀W,Kp no w1 W→S W:=fun W k=>by rw[hSd];exact k
     refine wp_region_S 10 (S) (by kernel_rfl) (n:=11) rfl rfl ?hS (fun hS=> ?_)
     case hS=>exact hSk _ ((Kp.refl _ _).drew)
     refine tk 0 [] rfl (by kernel_rfl) rfl (fun _ _ _ h=>h) hS (fun _ h=>by(try dsimp only at h);go_simp;all_goals with_reducible rfl) ?_
     simp only[pS]
     refine tk 1 [3] rfl (by kernel_rfl) rfl (fun _ _ _ h=>h) hS (fun _ h=>by(try dsimp only at h);go_simp;all_goals with_reducible rfl) ?_
     simp only[pS]
     refine tk 2 [3] rfl (by kernel_rfl) rfl (fun _ _ _ h=>h) hS (fun _ h=>by(try dsimp only at h);go_simp;all_goals with_reducible rfl) ?_
     simp only[pS]
     refine tk 3 [] rfl (by kernel_rfl) rfl (fun _ _ _ h=>h) hS (fun _ h=>by(try dsimp only at h);go_simp;all_goals with_reducible rfl) ?_
     simp only[pS]
     refine tk 4 [6] rfl (by kernel_rfl) rfl (fun _ _ _ h=>h) hS (fun _ h=>by(try dsimp only at h);go_simp;all_goals with_reducible rfl) ?_
     simp only[pS]
     refine tk 5 [6] rfl (by kernel_rfl) rfl (fun _ _ _ h=>h) hS (fun _ h=>by(try dsimp only at h);go_simp;all_goals with_reducible rfl) ?_
     simp only[pS]
     refine tk 6 [] rfl (by kernel_rfl) rfl (fun _ _ _ h=>h) hS (fun _ h=>by(try dsimp only at h);go_simp;all_goals with_reducible rfl) ?_
     simp only[pS]
     refine tk 7 [9] rfl (by kernel_rfl) rfl (fun _ _ _ h=>h) hS (fun _ h=>by(try dsimp only at h);go_simp;all_goals with_reducible rfl) ?_
     simp only[pS]
     refine tk 8 [9] rfl (by kernel_rfl) rfl (fun _ _ _ h=>h) hS (fun _ h=>by(try dsimp only at h);go_simp;all_goals with_reducible rfl) ?_
     simp only[pS]
     refine tk 9 [] rfl (by kernel_rfl) rfl (fun _ _ _ h=>h) hS (fun _ h=>by(try dsimp only at h);go_simp;all_goals with_reducible rfl) ?_
     simp only[pS]
     refine wpAnyS_end 10 rfl (by kernel_rfl) rfl (by kernel_rfl) (fun K hK=> ?_)
     refine step_call (by rfl) 157 _ _ (by rfl) enters_need #[ptr pb,.int .u8 (magB k).toNat,.int .u8 (magB k).toNat,.int .u8 (magB k).toNat] (by first |rfl |(simp only[hix];rfl)) (need_any (HS.out.keep ((Kp.refl no _).drew) (fun _ _ h=>h)) (magB k) (magB k) (magB k)) ?_
     rintro r w3 ⟨rfl,h3,k3⟩
     refine⟨_,rfl,hK _ _ ?_⟩
     clear hK K
     refine wpAnyS_done (by kernel_rfl) ?_ _
     have H3:=hide h3
     have K3:=hide (((Kp.refl (one pb) w1).drew).trans k3)
     clear h3 k3 hSk hSd hidx hix hS
     go_wp2_with fail
     go_roundw
     case rel=>
      exact⟨k+1,_,by omega,by go_num,H3.out,HK.out.trans K3.out,(mag_step hlt).trans HM.out⟩
     case measure=>simp[intOf];omega
   ·go_wp2_with fail
    go_meet
    have hM:=HM.out
    rw[show k=4 by omega]at hM
    rw[←hM]
    exact⟨HS.out,HK.out⟩
 case rest=>
  rename World=>w2
  obtain⟨h2,k2⟩:=hcut
  have H2:=hide (H.out.kp k2 h2)
  have K2:=hide k2
  clear h2 k2
  obtain⟨mg,hmg⟩: ∃mg,mg=magicR E σ:=⟨_,rfl⟩
  rw[←hmg]at H2
  have HMG:=hide hmg
  clear hmg
  go_wp2_with fail
  refine(u_any H2.out.st 16).mono ?_
  rintro e w3 ⟨rfl,h3,k3⟩
  have hn16:(uM E 16 mg).1≤16:=u_most E 16 mg
  have H3:=hide (H2.out.kp k3 h3)
  have K3:=hide (K2.out.trans k3)
  obtain⟨nn,hnn⟩: ∃nn,nn=uM E 16 mg:=⟨_,rfl⟩
  rw[←hnn]at H3 hn16⊢
  have HN:=hide hnn
  clear h3 k3 hnn
  obtain⟨R1,hR1⟩: ∃R1,R1=timesR E 16 (typeR E) mg:=⟨_,rfl⟩
  have HT0:Hid (Tied (typeR E) nn.1 0 [] nn.2 R1):=hide (by rw[hR1];unfold timesR;rw[←HN.out];exact Tied.start _ _ _)
  have HR1:=hide hR1
  clear hR1
  go_upto_block 2 with fail
  go_cut [5,6,7] (fun _ _ _ wx=> ∃(tv:Value) (ts:List (List UInt8×List UInt8)),HdSt wx pb mb base E tv (.slice none 0 0) (.slice none 0 0) 0 ts [] [] R1.2∧(badM R1.2=false→R1.1=ts)∧Kp (fun b=>b=pb∨b=mb) w wx)
  case first =>
   go_wp2_with fail
   go_loopw [5,6,7] (fun i _ _ wr=> ∃(k:Nat) (σ':PS) (tv:Value) (ts:List (List UInt8×List UInt8)),k≤nn.1∧i= .int .i64 k∧HdSt wr pb mb base E tv (.slice none 0 0) (.slice none 0 0) 0 ts [] [] σ'∧ts.length≤k∧Tied (typeR E) nn.1 k ts σ' R1∧Kp (fun b=>b=pb∨b=mb) w wr) (fun i _ _ _=>nn.1 - (intOf i).toNat)
   case atStart=>exact⟨0,nn.2,_,[],by omega,rfl,H3.out,Nat.le_refl _,HT0.out,K3.out.mono (fun b _ h=> .inl h)⟩
   case round=>
    obtain⟨k,σ',tv,ts,hk,rfl,hst,htk,htie,hkp⟩:=hrel
    have HS:=hide hst
    have HK:=hide hkp
    have HT:=hide htie
    clear hst hkp htie
    by_cases hlt:k<nn.1
    ·by_cases hbd:badM σ'=true
     ·go_wp2_with fail
      refine(bad_any HS.out.st).mono ?_
      rintro e w1 ⟨rfl,rfl⟩
      go_wp2_with fail
      go_meet
      obtain⟨q1,q2⟩:=HT.out.fin (.inl hbd)
      exact⟨tv,ts,by rw[q1];exact HS.out,fun e=>q2 (by rw[←q1];exact e),HK.out⟩
     ·simp only[Bool.not_eq_true]at hbd
      go_wp2_with fail
      refine(bad_any HS.out.st).mono ?_
      rintro e w1 ⟨rfl,rfl⟩
      go_wp2_with fail
      have hpb1:=HS.out.st.lt
      have hbs1:=HS.out.bs
      have hmb1:=HS.out.mbl
      have ka:Kp no w1 (w1.alloc (.cells #[.slice none 0 0,.slice none 0 0] 190)):=(Kp.refl _ _).alloc _
      have hta:=heap_alloc_new w1 (.cells #[.slice none 0 0,.slice none 0 0] 190)
      have htn: ¬one pb w1.heap.size:=fun e=>by unfold one at e;omega
      generalize w1.alloc (.cells #[.slice none 0 0,.slice none 0 0] 190)=wa at *
      have hza:=lt_of_blk hta
      refine(u_any (HS.out.st.keep ka (fun _ _ h=>h)) 8).mono ?_
      rintro e wb ⟨rfl,hb,kb⟩
      have hu8:(uM E 8 σ').1≤8:=u_most E 8 σ'
      obtain⟨u1,hu1⟩: ∃u1,u1=uM E 8 σ':=⟨_,rfl⟩
      rw[←hu1]at hb hu8⊢
      have HU1:=hide hu1
      have HB:=hide hb
      have hzb:=kb.size
      have HTb:=hide (kb.blk hta htn)
      clear hu1 hb hta
      go_wp2_with fail
      refine(types_own HB.out u1.1 (by omega)).mono ?_
      rintro e wc ⟨v1,rfl,ho1,hc,kc⟩
      have hl8:(typesM E u1.1 u1.2).1.length≤8:=by
       have :=types_len E u1.1 [] u1.2
       simp only[List.length_nil]at this
       show(typesGo E u1.1 [] u1.2).1.length≤8
       omega
      obtain⟨l1,hl1⟩: ∃l1,l1=typesM E u1.1 u1.2:=⟨_,rfl⟩
      rw[←hl1]at ho1 hc hl8
      have HL1:=hide hl1
      have HO1:=hide ho1
      have HC:=hide hc
      have hzc:=kc.size
      have htc:=kc.blk HTb.out htn
      obtain⟨hcc,hfc⟩:=cells_of htc
      have HTc:=hide htc
      have K1c:=hide ((ka.any (S:=one pb)).trans (kb.trans kc))
      obtain⟨ad1,cap1,rfl⟩:=own_shape ho1
      have hbn: ∀b,bvB E.b E.data=some b→ ¬one w1.heap.size b:=fun b hb e=>by have :=HS.out.st.low b hb;unfold one at e;omega
      have HBN:=hide hbn
      clear hl1 ho1 hc htc ka kb kc hbn
      go_wp2_with fail
      have hd:=HC.out.off (S:=one w1.heap.size) ((Kp.refl _ wc).set1 0 (.slice ad1 l1.1.length cap1)) (fun e=>by unfold one at e;omega) HBN.out
      have htd:=heap_setCell (o:=0) HTc.out (.slice ad1 l1.1.length cap1)
      have kcd:Kp (fun b=>b=pb∨b=w1.heap.size) wc (wc.setCell ⟨w1.heap.size,0,none⟩ (.slice ad1 l1.1.length cap1)):=(Kp.refl _ wc).setAt (.inr rfl) _ _
      have K1d:=hide (K1c.out.setNew (Nat.le_refl _) 0 (.slice ad1 l1.1.length cap1))
      generalize wc.setCell ⟨w1.heap.size,0,none⟩ (.slice ad1 l1.1.length cap1)=wd at *
      have hzd:=kcd.size
      refine(u_any hd 1).mono ?_
      rintro e we ⟨rfl,he,ke⟩
      have hu9:(uM E 1 l1.2).1≤1:=u_most E 1 l1.2
      obtain⟨u2,hu2⟩: ∃u2,u2=uM E 1 l1.2:=⟨_,rfl⟩
      rw[←hu2]at he hu9⊢
      have HU2:=hide hu2
      have HE:=hide he
      have hze:=ke.size
      have HTe:=hide (ke.blk htd htn)
      clear hu2 he htd hd hcc hfc
      go_wp2_with fail
      refine(types_own HE.out u2.1 (by omega)).mono ?_
      rintro e wf ⟨v2,rfl,ho2,hf,kf⟩
      have hl9:(typesM E u2.1 u2.2).1.length≤1:=by
       have :=types_len E u2.1 [] u2.2
       simp only[List.length_nil]at this
       show(typesGo E u2.1 [] u2.2).1.length≤1
       omega
      obtain⟨l2,hl2⟩: ∃l2,l2=typesM E u2.1 u2.2:=⟨_,rfl⟩
      rw[←hl2]at ho2 hf hl9
      have HL2:=hide hl2
      have HO2:=hide ho2
      have HF:=hide hf
      have hzf:=kf.size
      have htf:=kf.blk HTe.out htn
      obtain⟨hcf,hff⟩:=cells_of htf
      have HTf:=hide htf
      have kcf:Kp (fun b=>b=pb∨b=w1.heap.size) wc wf:=kcd.trans ((ke.trans kf).mono (fun b _ h=> .inl h))
      have K1f:=hide (K1d.out.trans (ke.trans kf))
      have KCF:=hide kcf
      obtain⟨ad2,cap2,rfl⟩:=own_shape ho2
      clear hl2 ho2 hf htf ke kf kcd kcf
      go_wp2_with fail
      have hg:=HF.out.off (S:=one w1.heap.size) ((Kp.refl _ wf).set1 1 (.slice ad2 l2.1.length cap2)) (fun e=>by unfold one at e;omega) HBN.out
      have htg:=heap_setCell (o:=1) HTf.out (.slice ad2 l2.1.length cap2)
      have kfg:Kp (fun b=>b=pb∨b=w1.heap.size) wf (wf.setCell ⟨w1.heap.size,1,none⟩ (.slice ad2 l2.1.length cap2)):=(Kp.refl _ wf).setAt (.inr rfl) _ _
      have k1g:=K1f.out.setNew (Nat.le_refl _) 1 (.slice ad2 l2.1.length cap2)
      generalize wf.setCell ⟨w1.heap.size,1,none⟩ (.slice ad2 l2.1.length cap2)=wg at *
      have hG:=HS.out.kp k1g hg
      have hzg:=kfg.size
      obtain⟨hrT,hrF,hrG⟩:=HS.out.rows
      have hbl1:Bl wg base tv (.slice none 0 0) (.slice none 0 0) (.slice ad1 l1.1.length cap1) l1.1:=Bl.new ((KCF.out.trans kfg).own HO1.out (fun b hb e=>by have :=own_new HO1.out b hb;omega)) (by omega) (fun b hb=>by have :=hrT b hb;omega) (fun b hb=>by cases hb) (fun b hb=>by cases hb)
      have hbl2:Bl wg base tv (.slice none 0 0) (.slice none 0 0) (.slice ad2 l2.1.length cap2) l2.1:=Bl.new (kfg.own HO2.out (fun b hb e=>by have :=own_new HO2.out b hb;omega)) (by omega) (fun b hb=>by have :=hrT b hb;omega) (fun b hb=>by cases hb) (fun b hb=>by cases hb)
      have HBl1:=hide hbl1
      have HBl2:=hide hbl2
      have HG:=hide hG
      have K1G:=hide k1g
      have HTg:=hide htg
      obtain⟨cs,hown,hrow⟩:=hG.town
      have HOwn:=hide hown
      have HRow:=hide hrow
      have hcl:=hown.1
      obtain⟨ig,eg,pg,hig,hbg,-,-⟩:=hG.st.obj
      obtain⟨adT,capT,rfl⟩:=own_shape hown
      obtain⟨j1,z1,hj1,hy0,hy1,hy2,hy3⟩:=info_Type
      obtain⟨S,hSd⟩: ∃S:World→Prop,S=fun w'=>(∀q,w'.cell? ⟨pb,q,none⟩= #[ptr mb,E.b,.int .i64 ig,.int .i64 (E.en:Int),.int .i64 eg,.int .i64 pg,E.loc,.int .i64 E.d][q]?)∧(∀q,w'.cell? ⟨mb,q,none⟩= #[.slice adT ts.length capT,.slice none 0 0,.slice none 0 0,.int .i64 0][q]?)∧(∀q,w'.frozen? ⟨mb,q,none⟩=false)∧(∀q,w'.cell? ⟨w1.heap.size,q,none⟩= #[.slice ad1 l1.1.length cap1,.slice ad2 l2.1.length cap2][q]?):=⟨_,rfl⟩
      have hSk: ∀W,Kp (fun b=>(Value.slice adT ts.length capT).ownBlock=some b) wg W→S W:=fun W k=>by
       rw[hSd]
       have hmk:=k.blk HG.out.blk (fun e=>by have :=own_new HOwn.out mb e;omega)
       refine⟨by rw[←hm];exact(cells_of (k.blk hbg (fun e=>by have :=own_new HOwn.out pb e;have :=HG.out.pbl;omega))).1,(cells_of hmk).1,(cells_of hmk).2,(cells_of (k.blk HTg.out (fun e=>by have :=hrT _ e;omega))).1⟩
      have HSk:=hide hSk
      have HSd:=hide hSd
      clear hG k1g htg hg kfg hown hrow hbg hSk hSd hrT hrF hrG hbl1 hbl2 hcf hff
      refine wp_region_S 16 (S) (by kernel_rfl) (n:=17) rfl rfl ?hS (fun hS=> ?_)
      case hS=>exact HSk.out _ ((Kp.refl _ _).drew)
      have hSd:=HSd.out
      subst hSd
      refine tk 0 [] rfl (by kernel_rfl) rfl (fun _ _ _ h=>h) hS (fun _ h=>by(try dsimp only at h);go_simp;all_goals with_reducible rfl) ?_
      simp only[pS]
      refine tk 1 [] rfl (by kernel_rfl) rfl (fun _ _ _ h=>h) hS (fun _ h=>by(try dsimp only at h);go_simp;all_goals with_reducible rfl) ?_
      simp only[pS]
      refine tk 2 [] rfl (by kernel_rfl) rfl (fun _ _ _ h=>h) hS (fun _ h=>by(try dsimp only at h);go_simp;all_goals with_reducible rfl) ?_
      simp only[pS]
      refine tk 3 [] rfl (by kernel_rfl) rfl (fun _ _ _ h=>h) hS (fun _ h=>by(try dsimp only at h);go_simp;all_goals with_reducible rfl) ?_
      simp only[pS]
      refine tk 4 [] rfl (by kernel_rfl) rfl (fun _ _ _ h=>h) hS (fun _ h=>by(try dsimp only at h);go_simp;all_goals with_reducible rfl) ?_
      simp only[pS]
      refine tk 5 [] rfl (by kernel_rfl) rfl (fun _ _ _ h=>h) hS (fun _ h=>by(try dsimp only at h);go_simp;all_goals with_reducible rfl) ?_
      simp only[pS]
      refine tk 6 [] rfl (by kernel_rfl) rfl (fun _ _ _ h=>h) hS (fun _ h=>by(try dsimp only at h);go_simp;all_goals with_reducible rfl) ?_
      simp only[pS]
      refine tk 7 [] rfl (by kernel_rfl) rfl (fun _ _ _ h=>h) hS (fun _ h=>by(try dsimp only at h);go_simp;all_goals with_reducible rfl) ?_
      simp only[pS]
      refine tk 8 [] rfl (by kernel_rfl) rfl (fun _ _ _ h=>h) hS (fun _ h=>by(try dsimp only at h);go_simp;all_goals with_reducible rfl) ?_
      simp only[pS]
      refine tk 9 [] rfl (by kernel_rfl) rfl (fun _ _ _ h=>h) hS (fun _ h=>by(try dsimp only at h);go_simp;all_goals with_reducible rfl) ?_
      simp only[pS]
      refine tk 10 [] rfl (by kernel_rfl) rfl (fun _ _ _ h=>h) hS (fun _ h=>by(try dsimp only at h);go_simp;all_goals with_reducible rfl) ?_
      simp only[pS]
      refine tk 11 [] rfl (by kernel_rfl) rfl (fun _ _ _ h=>h) hS (fun _ h=>by(try dsimp only at h);go_simp;all_goals with_reducible rfl) ?_
      simp only[pS]
      refine wpAnyS_one 12 rfl (by kernel_rfl) rfl (fun K hK=> ?_)
      go_simp
      have kal:Kp no wg ((wg.alloc (.cells #[.slice ad1 l1.1.length cap1,.slice ad2 l2.1.length cap2] 190)).drew):=((Kp.refl _ _).alloc _).drew
      have hsrc:RowAt ((wg.alloc (.cells #[.slice ad1 l1.1.length cap1,.slice ad2 l2.1.length cap2] 190)).drew) (.slice (some ⟨wg.heap.size,0,none⟩) 1 1) 2 1 [.slice ad1 l1.1.length cap1,.slice ad2 l2.1.length cap2]:=(RowAt.newRow wg #[.slice ad1 l1.1.length cap1,.slice ad2 l2.1.length cap2] 190).kp ((Kp.refl no _).drew) (fun _ _ h=>h)
      generalize(wg.alloc (.cells #[.slice ad1 l1.1.length cap1,.slice ad2 l2.1.length cap2] 190)).drew=wh at *
      refine hK _ _ (HSk.out _ kal.any) (fun hS=> ?_)
      clear hK K
      refine wpAnyS_one 13 rfl (by kernel_rfl) rfl (fun K hK=> ?_)
      refine step_append_at _ (by rfl) _ _ _ (by rfl) base 190 j1 _ 2 48 Tryz.underlying145 hj1 hy0 hy1 hy2 hy3 (by omega) _ ts.length cs (by rfl) (kal.own HOwn.out (fun _ _ h=>h)) (.slice (some ⟨wg.heap.size,0,none⟩) 1 1) 1 [.slice ad1 l1.1.length cap1,.slice ad2 l2.1.length cap2] (by rfl) hsrc ?t2 ?t3 ?t4 ?t5 ?_
      case t2=>intro u hu;simp at hu;rcases hu with rfl |rfl <;>rfl
      case t3=>unfold maxLen;omega
      case t4=>omega
      case t5=>have :=kal.size;omega
      intro v13 w13 hown13 hgrow13 hat13
      have k13:Kp (fun b=>(Value.slice adT ts.length capT).ownBlock=some b) wg w13:=(kal.any).grown hgrow13 (fun b hb=> .inl hb)
      refine hK _ _ (HSk.out _ k13) (fun hS=> ?_)
      clear hK K
      obtain⟨ad13,cap13,rfl⟩:=own_shape hown13
      refine tk 14 [15] rfl (by kernel_rfl) rfl (fun _ _ _ h=>h) hS (fun _ h=>by(try dsimp only at h);go_simp;all_goals with_reducible rfl) ?_
      simp only[pS]
      refine tk 15 [] rfl (by kernel_rfl) rfl (fun _ _ _ h=>h) hS (fun _ h=>by(try dsimp only at h);go_simp;all_goals with_reducible rfl) ?_
      simp only[pS]
      refine wpAnyS_end 16 rfl (by kernel_rfl) rfl (by kernel_rfl) (fun K hK=> ?_)
      go_simp
      refine hK _ _ ?_
      clear hK K
      refine wpAnyS_done (by kernel_rfl) ?_ _
      have hmo: ∀{u:Value} {n:Nat} {xs:List Value},wg.ownsRow base 190 2 u n xs→u.ownBlock≠some mb:=fun o e=>by have :=own_new o mb e;omega
      have kF:Kp (fun b=>b=mb∨(Value.slice adT ts.length capT).ownBlock=some b) wg (w13.setCell ⟨mb,0,none⟩ (.slice ad13 (ts.length+1) cap13)):=(k13.mono (fun b _ h=> .inr h)).setAt (.inl rfl) _ _
      have hmF:=heap_setCell (o:=0) (k13.blk HG.out.blk (hmo HOwn.out)) (.slice ad13 (ts.length+1) cap13)
      have hownF:=((Kp.refl (one mb) w13).set1 0 (.slice ad13 (ts.length+1) cap13)).own hown13 (fun b hb e=>by have :=own_new hown13 b hb;unfold one at e;omega)
      have hFin:=HG.out.addT (x:=(l1.1,l2.1)) kF hmF hcl HRow.out hownF (by rcases hat13 with e|e;exact .inl e;exact .inr ⟨_,e,kal.size⟩) HBl1.out HBl2.out ⟨hl8,hl9⟩ (by omega)
      have hty:typeR E σ'=((l1.1,l2.1),l2.2):=by unfold typeR listR;rw[←HU1.out,←HL1.out,←HU2.out,←HL2.out]
      have htie:=HT.out.step (l':=ts++[(l1.1,l2.1)]) hlt hbd (fun _=>by rw[hty])
      rw[hty]at htie
      have hkF:Kp (fun b=>b=pb∨b=mb) w (w13.setCell ⟨mb,0,none⟩ (.slice ad13 (ts.length+1) cap13)):=(HK.out.trans (K1G.out.mono (fun b _ h=> .inl h))).comp kF (fun _ _ h=>h) (fun b hb h=>by
       rcases h with h|h
       ·exact .inr h
       ·have :=own_new HOwn.out b h
        have :=HBase.out
        omega)
      generalize w13.setCell ⟨mb,0,none⟩ (.slice ad13 (ts.length+1) cap13)=wz at *
      have HFin:=hide hFin
      have HTie:=hide htie
      have HKF:=hide hkF
      clear hFin htie hkF hmF hownF kF hty hat13 hgrow13 hown13 k13 hS hsrc kal hmo
      go_wp2_with fail
      go_roundw
      case rel=>
       exact⟨k+1,l2.2,_,ts++[(l1.1,l2.1)],by omega,by go_num,HFin.out,by simp;omega,HTie.out,HKF.out⟩
      case measure=>simp[intOf];omega
    ·go_wp2_with fail
     go_meet
     obtain⟨q1,q2⟩:=HT.out.fin (.inr (by omega))
     exact⟨tv,ts,by rw[q1];exact HS.out,fun e=>q2 (by rw[←q1];exact e),HK.out⟩
  case rest=>
   rename World=>w4
   obtain⟨tv,ts,h4,hts,k4⟩:=hcut
   have H4:=hide h4
   have HTS:=hide hts
   have K4:=hide k4
   clear h4 hts k4 HT0 H3 K3 H2 K2
   go_wp2_with fail
   refine(u_any H4.out.st 16).mono ?_
   rintro e w5 ⟨rfl,h5,k5⟩
   have hn2:(uM E 16 R1.2).1≤16:=u_most E 16 R1.2
   have H5:=hide (H4.out.kp k5 h5)
   have K5:=hide (K4.out.trans (k5.mono (fun b _ h=> .inl h)))
   obtain⟨n2,hn2e⟩: ∃n2,n2=uM E 16 R1.2:=⟨_,rfl⟩
   rw[←hn2e]at H5 hn2⊢
   have HN2:=hide hn2e
   clear h5 k5 hn2e
   obtain⟨R2,hR2⟩: ∃R2,R2=timesR E 16 (funR E R1.1) R1.2:=⟨_,rfl⟩
   have HT0:Hid (Tied (funR E R1.1) n2.1 0 [] n2.2 R2):=hide (by rw[hR2];unfold timesR;rw[←HN2.out];exact Tied.start _ _ _)
   have HR2:=hide hR2
   clear hR2
   go_upto_block 4 with fail
   go_cut [8,9] (fun _ _ wx=> ∃(fv:Value) (fs:List (List UInt8×List UInt8)),HdSt wx pb mb base E tv fv (.slice none 0 0) 0 ts fs [] R2.2∧(badM R2.2=false→R2.1=fs)∧Kp (fun b=>b=pb∨b=mb) w wx)
   case first =>
    go_wp2_with fail
    go_loopw [8,9] (fun i _ wr=> ∃(k:Nat) (σ':PS) (fv:Value) (fs:List (List UInt8×List UInt8)),k≤n2.1∧i= .int .i64 k∧HdSt wr pb mb base E tv fv (.slice none 0 0) 0 ts fs [] σ'∧fs.length≤k∧Tied (funR E R1.1) n2.1 k fs σ' R2∧Kp (fun b=>b=pb∨b=mb) w wr) (fun i _ _=>n2.1 - (intOf i).toNat)
    case atStart=>exact⟨0,n2.2,_,[],by omega,rfl,H5.out,Nat.le_refl _,HT0.out,K5.out⟩
    case round=>
     obtain⟨k,σ',fv,fs,hk,rfl,hst,htk,htie,hkp⟩:=hrel
     have HS:=hide hst
     have HK:=hide hkp
     have HT:=hide htie
     clear hst hkp htie
     by_cases hlt:k<n2.1
     ·by_cases hbd:badM σ'=true
      ·go_wp2_with fail
       refine(bad_any HS.out.st).mono ?_
       rintro e w1 ⟨rfl,rfl⟩
       go_wp2_with fail
       go_meet
       obtain⟨q1,q2⟩:=HT.out.fin (.inl hbd)
       exact⟨fv,fs,by rw[q1];exact HS.out,fun e=>q2 (by rw[←q1];exact e),HK.out⟩
      ·simp only[Bool.not_eq_true]at hbd
       have hRb:badM R1.2=false:=by
        cases hq:badM R1.2 with
        |false=>rfl
        |true=>
         exfalso
         have h0:=HN2.out
         rw[u_sticky hq]at h0
         rw[h0]at hlt
         exact absurd hlt (Nat.not_lt_zero _)
       have HTS':=hide (HTS.out hRb)
       go_wp2_with fail
       refine(bad_any HS.out.st).mono ?_
       rintro e w1 ⟨rfl,rfl⟩
       obtain⟨i1,e1,p1,hi1,hb1,-,-⟩:=HS.out.st.obj
       obtain⟨hc1,hf1⟩:=cells_of hb1
       obtain⟨hcm1,hfm1⟩:=cells_of HS.out.blk
       obtain⟨csT,hownT,hrowT⟩:=HS.out.town
       obtain⟨adT,capT,htvs⟩:=own_shape hownT
       have htl:=HS.out.tl
       have hwr:wrap64 ((ts.length:Int) -1)=(ts.length:Int) -1:=by unfold wrap64;omega
       rw[hm]at hc1
       rw[htvs]at hcm1
       have HTV:=hide htvs
       have HOT:=hide hownT
       have HRT:=hide hrowT
       clear hb1 hownT hrowT htvs
       go_wp2_with fail
       refine(u_any HS.out.st ((ts.length:Int) -1)).mono ?_
       rintro e wb ⟨rfl,hb,kb⟩
       have hqle:badM (uM E ((ts.length:Int) -1) σ').2=false→((uM E ((ts.length:Int) -1) σ').1:Int)≤(ts.length:Int) -1:=u_le E ((ts.length:Int) -1) σ'
       have hfr:funR E R1.1 σ'=(ts.getD (uM E ((ts.length:Int) -1) σ').1 ([],[]),(uM E ((ts.length:Int) -1) σ').2):=by unfold funR;rw[HTS'.out]
       obtain⟨u1,hu1⟩: ∃u1,u1=uM E ((ts.length:Int) -1) σ':=⟨_,rfl⟩
       rw[←hu1]at hb hqle hfr⊢
       have HG:=hide (HS.out.kp kb hb)
       have KB:=hide kb
       have HFR:=hide hfr
       clear hu1 hb kb hfr hc1 hf1 hcm1 hfm1 hwr
       by_cases hbb:badM u1.2=true
       ·go_wp2_with fail
        refine(bad_any HG.out.st).mono ?_
        rintro e wc ⟨rfl,rfl⟩
        go_wp2_with fail
        go_roundw
        case rel=>
         have htie:=HT.out.step (l':=fs) hlt hbd (fun e=>by rw[HFR.out]at e;simp only at e;rw[hbb]at e;cases e)
         rw[HFR.out]at htie
         exact⟨k+1,u1.2,fv,fs,by omega,by go_num,HG.out,by omega,htie,HK.out.trans (KB.out.mono (fun b _ h=> .inl h))⟩
        case measure=>simp[intOf];omega
       ·simp only[Bool.not_eq_true]at hbb
        have hq1:=hqle hbb
        have hqn:u1.1<ts.length:=by omega
        clear hqle
        go_wp2_with fail
        refine(bad_any HG.out.st).mono ?_
        rintro e wg ⟨rfl,rfl⟩
        go_wp2_with fail
        obtain⟨csT,hownT,hrowT⟩:=HG.out.town
        obtain⟨x,hx⟩: ∃x,ts[u1.1]? =some x:=⟨_,List.getElem?_eq_getElem hqn⟩
        obtain⟨pv,rv,hp1,hp2,hbl1,hbl2⟩:=hrowT u1.1 x hx
        obtain⟨aT,oT,cT,hvT,_,hcell1⟩:=(RowAt.own hownT).get hp1
        obtain⟨aT',oT',cT',hvT',_,hcell2⟩:=(RowAt.own hownT).get hp2
        rw[hvT]at hvT'
        cases hvT'
        rw[←Nat.add_assoc]at hcell2
        have hxd:ts.getD u1.1 ([],[])=x:=by rw[List.getD_eq_getElem?_getD,hx];rfl
        have hxl:=HG.out.tll x (List.mem_of_getElem? hx)
        obtain⟨cs,hown,hrow⟩:=HG.out.fown
        have hcl:=hown.1
        obtain⟨adF,capF,hvF⟩:=own_shape hown
        obtain⟨ig,eg,pg,hig,hbg,-,-⟩:=HG.out.st.obj
        obtain⟨ad1,cap1,hpv,-⟩:=hbl1.row.shape
        obtain⟨ad2,cap2,hrv,-⟩:=hbl2.row.shape
        subst hpv hrv
        obtain⟨j1,z1,hj1,hy0,hy1,hy2,hy3⟩:=info_Func
        have hpbl:=HG.out.pbl
        have hmbl:=HG.out.mbl
        have hfne: ∀b,fv.ownBlock=some b→base≤b:=own_new hown
        have htf:fv.ownBlock≠some aT:=fun e=>(HG.out.tf aT (by rw[hvT];rfl)).1 e
        obtain⟨S,hSd⟩: ∃S:World→Prop,S=fun w'=>(∀q,w'.cell? ⟨pb,q,none⟩= #[ptr mb,E.b,.int .i64 ig,.int .i64 (E.en:Int),.int .i64 eg,.int .i64 pg,E.loc,.int .i64 E.d][q]?)∧(∀q,w'.cell? ⟨mb,q,none⟩= #[.slice (some ⟨aT,oT,none⟩) ts.length cT,.slice adF fs.length capF,.slice none 0 0,.int .i64 0][q]?)∧(∀q,w'.frozen? ⟨mb,q,none⟩=false)∧w'.cell? ⟨aT,oT+u1.1*2,none⟩=some (.slice ad1 x.1.length cap1)∧w'.cell? ⟨aT,oT+u1.1*2+1,none⟩=some (.slice ad2 x.2.length cap2):=⟨_,rfl⟩
        have hSk: ∀W,Kp (fun b=>fv.ownBlock=some b) wg W→S W:=fun W k=>by
         rw[hSd]
         have hmk:=k.blk HG.out.blk (fun e=>by have :=hfne mb e;omega)
         rw[hvT,hvF]at hmk
         refine⟨by rw[←hm];exact(cells_of (k.blk hbg (fun e=>by have :=hfne pb e;omega))).1,(cells_of hmk).1,(cells_of hmk).2,k.cell hcell1 (fun e=>htf e),k.cell hcell2 (fun e=>htf e)⟩
        have HSk:=hide hSk
        have HSd:=hide hSd
        have HOwn:=hide hown
        have HRow:=hide hrow
        have HBl1:=hide hbl1
        have HBl2:=hide hbl2
        have HVF:=hide hvF
        have HXD:=hide hxd
        clear hSk hSd hownT hrowT hown hrow hbg hbl1 hbl2 hp1 hp2 hcell1 hcell2 hvT hvF hxd hx
        refine wp_region_S 26 (S) (by kernel_rfl) (n:=27) rfl rfl ?hS (fun hS=> ?_)
        case hS=>exact HSk.out _ ((Kp.refl _ _).drew)
        have hSd:=HSd.out
        subst hSd
        refine tk 0 [] rfl (by kernel_rfl) rfl (fun _ _ _ h=>h) hS (fun _ h=>by(try dsimp only at h);go_simp;all_goals with_reducible rfl) ?_
        simp only[pS]
        refine tk 1 [] rfl (by kernel_rfl) rfl (fun _ _ _ h=>h) hS (fun _ h=>by(try dsimp only at h);go_simp;all_goals with_reducible rfl) ?_
        simp only[pS]
        refine tk 2 [] rfl (by kernel_rfl) rfl (fun _ _ _ h=>h) hS (fun _ h=>by(try dsimp only at h);go_simp;all_goals with_reducible rfl) ?_
        simp only[pS]
        refine tk 3 [] rfl (by kernel_rfl) rfl (fun _ _ _ h=>h) hS (fun _ h=>by(try dsimp only at h);go_simp;all_goals with_reducible rfl) ?_
        simp only[pS]
        refine tk 4 [] rfl (by kernel_rfl) rfl (fun _ _ _ h=>h) hS (fun _ h=>by(try dsimp only at h);go_simp;all_goals with_reducible rfl) ?_
        simp only[pS]
        refine tk 5 [] rfl (by kernel_rfl) rfl (fun _ _ _ h=>h) hS (fun _ h=>by(try dsimp only at h);go_simp;all_goals with_reducible rfl) ?_
        simp only[pS]
        refine tk 6 [] rfl (by kernel_rfl) rfl (fun _ _ _ h=>h) hS (fun _ h=>by(try dsimp only at h);go_simp;all_goals with_reducible rfl) ?_
        simp only[pS]
        refine tk 7 [] rfl (by kernel_rfl) rfl (fun _ _ _ h=>h) hS (fun _ h=>by(try dsimp only at h);go_simp;all_goals with_reducible rfl) ?_
        simp only[pS]
        refine tk 8 [] rfl (by kernel_rfl) rfl (fun _ _ _ h=>h) hS (fun _ h=>by(try dsimp only at h);go_simp;all_goals with_reducible rfl) ?_
        simp only[pS]
        refine tk 9 [] rfl (by kernel_rfl) rfl (fun _ _ _ h=>h) hS (fun _ h=>by(try dsimp only at h);go_simp;all_goals with_reducible rfl) ?_
        simp only[pS]
        refine tk 10 [] rfl (by kernel_rfl) rfl (fun _ _ _ h=>h) hS (fun _ h=>by(try dsimp only at h);go_simp;all_goals with_reducible rfl) ?_
        simp only[pS]
        refine tk 11 [] rfl (by kernel_rfl) rfl (fun _ _ _ h=>h) hS (fun _ h=>by(try dsimp only at h);go_simp;all_goals with_reducible rfl) ?_
        simp only[pS]
        refine tk 12 [] rfl (by kernel_rfl) rfl (fun _ _ _ h=>h) hS (fun _ h=>by(try dsimp only at h);go_simp;all_goals with_reducible rfl) ?_
        simp only[pS]
        refine tk 13 [] rfl (by kernel_rfl) rfl (fun _ _ _ h=>h) hS (fun _ h=>by(try dsimp only at h);go_simp;all_goals with_reducible rfl) ?_
        simp only[pS]
        refine tk 14 [] rfl (by kernel_rfl) rfl (fun _ _ _ h=>h) hS (fun _ h=>by(try dsimp only at h);go_simp;all_goals with_reducible rfl) ?_
        simp only[pS]
        refine tk 15 [] rfl (by kernel_rfl) rfl (fun _ _ _ h=>h) hS (fun _ h=>by(try dsimp only at h);go_simp;all_goals with_reducible rfl) ?_
        simp only[pS]
        refine tk 16 [] rfl (by kernel_rfl) rfl (fun _ _ _ h=>h) hS (fun _ h=>by(try dsimp only at h);go_simp;all_goals with_reducible rfl) ?_
        simp only[pS]
        refine tk 17 [] rfl (by kernel_rfl) rfl (fun _ _ _ h=>h) hS (fun _ h=>by(try dsimp only at h);go_simp;all_goals with_reducible rfl) ?_
        simp only[pS]
        refine tk 18 [] rfl (by kernel_rfl) rfl (fun _ _ _ h=>h) hS (fun _ h=>by(try dsimp only at h);go_simp;all_goals with_reducible rfl) ?_
        simp only[pS]
        refine tk 19 [] rfl (by kernel_rfl) rfl (fun _ _ _ h=>h) hS (fun _ h=>by(try dsimp only at h);go_simp;all_goals with_reducible rfl) ?_
        simp only[pS]
        refine tk 20 [] rfl (by kernel_rfl) rfl (fun _ _ _ h=>h) hS (fun _ h=>by(try dsimp only at h);go_simp;all_goals with_reducible rfl) ?_
        simp only[pS]
        refine tk 21 [] rfl (by kernel_rfl) rfl (fun _ _ _ h=>h) hS (fun _ h=>by(try dsimp only at h);go_simp;all_goals with_reducible rfl) ?_
        simp only[pS]
        refine wpAnyS_one 22 rfl (by kernel_rfl) rfl (fun K hK=> ?_)
        go_simp
        have kal:Kp no wg ((wg.alloc (.cells #[.slice ad1 x.1.length cap1,.slice ad2 x.2.length cap2,.slice none 0 0,.slice none 0 0] 193)).drew):=((Kp.refl _ _).alloc _).drew
        have hsrc:RowAt ((wg.alloc (.cells #[.slice ad1 x.1.length cap1,.slice ad2 x.2.length cap2,.slice none 0 0,.slice none 0 0] 193)).drew) (.slice (some ⟨wg.heap.size,0,none⟩) 1 1) 4 1 [.slice ad1 x.1.length cap1,.slice ad2 x.2.length cap2,.slice none 0 0,.slice none 0 0]:=(RowAt.newRow wg #[.slice ad1 x.1.length cap1,.slice ad2 x.2.length cap2,.slice none 0 0,.slice none 0 0] 193).kp ((Kp.refl no _).drew) (fun _ _ h=>h)
        generalize(wg.alloc (.cells #[.slice ad1 x.1.length cap1,.slice ad2 x.2.length cap2,.slice none 0 0,.slice none 0 0] 193)).drew=wh at *
        have hfl16:fs.length+1≤16:=by omega
        have hown':wg.ownsRow base 193 4 (.slice adF fs.length capF) fs.length cs:=by rw[←HVF.out];exact HOwn.out
        refine hK _ _ (HSk.out _ kal.any) (fun hS=> ?_)
        clear hK K
        refine wpAnyS_one 23 rfl (by kernel_rfl) rfl (fun K hK=> ?_)
        refine step_append_at _ (by rfl) _ _ _ (by rfl) base 193 j1 _ 4 96 Tryz.underlying146 hj1 hy0 hy1 hy2 hy3 (by omega) _ fs.length cs (by rfl) (kal.own hown' (fun _ _ h=>h)) (.slice (some ⟨wg.heap.size,0,none⟩) 1 1) 1 [.slice ad1 x.1.length cap1,.slice ad2 x.2.length cap2,.slice none 0 0,.slice none 0 0] (by rfl) hsrc ?f2 ?f3 ?f4 ?f5 ?_
        case f2=>intro u hu;simp at hu;rcases hu with rfl |rfl |rfl <;>rfl
        case f3=>unfold maxLen;omega
        case f4=>omega
        case f5=>have :=kal.size;have :=HG.out.bs;omega
        intro v13 w13 hown13 hgrow13 hat13
        rw[←HVF.out]at hgrow13 hat13
        have k13:Kp (fun b=>fv.ownBlock=some b) wg w13:=(kal.any).grown hgrow13 (fun b hb=> .inl hb)
        refine hK _ _ (HSk.out _ k13) (fun hS=> ?_)
        clear hK K
        obtain⟨ad13,cap13,rfl⟩:=own_shape hown13
        refine tk 24 [25] rfl (by kernel_rfl) rfl (fun _ _ _ h=>h) hS (fun _ h=>by(try dsimp only at h);go_simp;all_goals with_reducible rfl) ?_
        simp only[pS]
        refine tk 25 [] rfl (by kernel_rfl) rfl (fun _ _ _ h=>h) hS (fun _ h=>by(try dsimp only at h);go_simp;all_goals with_reducible rfl) ?_
        simp only[pS]
        refine wpAnyS_end 26 rfl (by kernel_rfl) rfl (by kernel_rfl) (fun K hK=> ?_)
        go_simp
        refine hK _ _ ?_
        clear hK K
        refine wpAnyS_done (by kernel_rfl) ?_ _
        have kF:Kp (fun b=>b=mb∨fv.ownBlock=some b) wg (w13.setCell ⟨mb,1,none⟩ (.slice ad13 (fs.length+1) cap13)):=(k13.mono (fun b _ h=> .inr h)).setAt (.inl rfl) _ _
        have hmF:=heap_setCell (o:=1) (k13.blk HG.out.blk (fun e=>by have :=hfne mb e;omega)) (.slice ad13 (fs.length+1) cap13)
        have hownF:=((Kp.refl (one mb) w13).set1 1 (.slice ad13 (fs.length+1) cap13)).own hown13 (fun b hb e=>by have :=own_new hown13 b hb;unfold one at e;omega)
        have hFin:=HG.out.addF (x:=x) kF hmF hcl HRow.out hownF (by rcases hat13 with e|e;exact .inl e;exact .inr ⟨_,e,kal.size⟩) HBl1.out HBl2.out hxl hfl16
        have htie:=HT.out.step (l':=fs++[x]) hlt hbd (fun _=>by rw[HFR.out,HXD.out])
        rw[HFR.out]at htie
        have hkF:Kp (fun b=>b=pb∨b=mb) w (w13.setCell ⟨mb,1,none⟩ (.slice ad13 (fs.length+1) cap13)):=(HK.out.trans (KB.out.mono (fun b _ h=> .inl h))).comp kF (fun _ _ h=>h) (fun b hb h=>by
         rcases h with h|h
         ·exact .inr h
         ·have :=hfne b h
          have :=HBase.out
          omega)
        generalize w13.setCell ⟨mb,1,none⟩ (.slice ad13 (fs.length+1) cap13)=wz at *
        have HFin:=hide hFin
        have HTie:=hide htie
        have HKF:=hide hkF
        clear hFin htie hkF hmF hownF kF hat13 hgrow13 hown13 k13 hS hsrc kal hown' hfne htf
        go_wp2_with fail
        go_roundw
        case rel=>
         exact⟨k+1,u1.2,_,fs++[x],by omega,by go_num,HFin.out,by simp;omega,HTie.out,HKF.out⟩
        case measure=>simp[intOf];omega
     ·go_wp2_with fail
      go_meet
      obtain⟨q1,q2⟩:=HT.out.fin (.inr (by omega))
      exact⟨fv,fs,by rw[q1];exact HS.out,fun e=>q2 (by rw[←q1];exact e),HK.out⟩
   case rest=>
    rename World=>w6
    obtain⟨fv,fs,h6,hfs,k6⟩:=hcut
    have H6:=hide h6
    have HFS:=hide hfs
    have K6:=hide k6
    clear h6 hfs k6 HT0 H5 K5 H4 K4
    go_wp2_with fail
    refine(u_any H6.out.st 8).mono ?_
    rintro e w7 ⟨rfl,h7,k7⟩
    have hn3:(uM E 8 R2.2).1≤8:=u_most E 8 R2.2
    have H7:=hide (H6.out.kp k7 h7)
    have K7:=hide (K6.out.trans (k7.mono (fun b _ h=> .inl h)))
    obtain⟨n3,hn3e⟩: ∃n3,n3=uM E 8 R2.2:=⟨_,rfl⟩
    rw[←hn3e]at H7 hn3⊢
    have HN3:=hide hn3e
    clear h7 k7 hn3e
    obtain⟨R3,hR3⟩: ∃R3,R3=timesR E 8 (globR E) R2.2:=⟨_,rfl⟩
    have HT0:Hid (Tied (globR E) n3.1 0 [] n3.2 R3):=hide (by rw[hR3];unfold timesR;rw[←HN3.out];exact Tied.start _ _ _)
    have HR3:=hide hR3
    clear hR3
    go_upto_block 6 with fail
    go_cut [10,11] (fun _ _ wx=> ∃(gv:Value) (gs:List (UInt8×UInt8×Nat)),HdSt wx pb mb base E tv fv gv 0 ts fs gs R3.2∧(badM R3.2=false→R3.1=gs)∧Kp (fun b=>b=pb∨b=mb) w wx)
    case first =>
     go_wp2_with fail
     go_loopw [10,11] (fun i _ wr=> ∃(k:Nat) (σ':PS) (gv:Value) (gs:List (UInt8×UInt8×Nat)),k≤n3.1∧i= .int .i64 k∧HdSt wr pb mb base E tv fv gv 0 ts fs gs σ'∧gs.length≤k∧Tied (globR E) n3.1 k gs σ' R3∧Kp (fun b=>b=pb∨b=mb) w wr) (fun i _ _=>n3.1 - (intOf i).toNat)
     case atStart=>exact⟨0,n3.2,_,[],by omega,rfl,H7.out,Nat.le_refl _,HT0.out,K7.out⟩
     case round=>
      obtain⟨k,σ',gv,gs,hk,rfl,hst,htk,htie,hkp⟩:=hrel
      have HS:=hide hst
      have HK:=hide hkp
      have HT:=hide htie
      clear hst hkp htie
      by_cases hlt:k<n3.1
      ·by_cases hbd:badM σ'=true
       ·go_wp2_with fail
        refine(bad_any HS.out.st).mono ?_
        rintro e w1 ⟨rfl,rfl⟩
        go_wp2_with fail
        go_meet
        obtain⟨q1,q2⟩:=HT.out.fin (.inl hbd)
        exact⟨gv,gs,by rw[q1];exact HS.out,fun e=>q2 (by rw[←q1];exact e),HK.out⟩
       ·simp only[Bool.not_eq_true]at hbd
        go_wp2_with fail
        refine(bad_any HS.out.st).mono ?_
        rintro e w1 ⟨rfl,rfl⟩
        go_wp2_with fail
        have hpb1:=HS.out.st.lt
        have hbs1:=HS.out.bs
        have hmb1:=HS.out.mbl
        have ka:Kp no w1 (w1.alloc (.cells #[.int .u8 0,.int .u8 0,.int .u64 0] 198)):=(Kp.refl _ _).alloc _
        have hta:=heap_alloc_new w1 (.cells #[.int .u8 0,.int .u8 0,.int .u64 0] 198)
        have htn: ¬one pb w1.heap.size:=fun e=>by unfold one at e;omega
        generalize w1.alloc (.cells #[.int .u8 0,.int .u8 0,.int .u64 0] 198)=wa at *
        have hza:=lt_of_blk hta
        refine(need_any (HS.out.st.keep ka (fun _ _ h=>h)) 127 126 126).mono ?_
        rintro e wb ⟨rfl,hb,kb⟩
        obtain⟨t,ht⟩: ∃t,t=needM E 127 126 126 σ':=⟨_,rfl⟩
        rw[←ht]at hb⊢
        have HTt:=hide ht
        have HB:=hide hb
        have htb:=kb.blk hta htn
        obtain⟨hcb,hfb⟩:=cells_of htb
        have HTb:=hide htb
        have K1b:=hide ((ka.any (S:=one pb)).trans kb)
        have hbn: ∀b,bvB E.b E.data=some b→ ¬one w1.heap.size b:=fun b hb e=>by have :=HS.out.st.low b hb;unfold one at e;omega
        have HBN:=hide hbn
        clear ht hb hta ka kb hbn htb
        go_wp2_with fail
        have hd:=HB.out.off (S:=one w1.heap.size) ((Kp.refl _ wb).set1 0 (.int .u8 t.1.toNat)) (fun e=>by unfold one at e;omega) HBN.out
        have htd:=heap_setCell (o:=0) HTb.out (.int .u8 t.1.toNat)
        have K1d:=hide (K1b.out.setNew (Nat.le_refl _) 0 (.int .u8 t.1.toNat))
        generalize wb.setCell ⟨w1.heap.size,0,none⟩ (.int .u8 t.1.toNat)=wd at *
        refine(need_any hd 0 1 1).mono ?_
        rintro e we ⟨rfl,he,ke⟩
        obtain⟨f,hf⟩: ∃f,f=needM E 0 1 1 t.2:=⟨_,rfl⟩
        rw[←hf]at he⊢
        have HFf:=hide hf
        have HE:=hide he
        have hte:=ke.blk htd htn
        obtain⟨hce,hfe⟩:=cells_of hte
        have HTe:=hide hte
        have K1e:=hide (K1d.out.trans ke)
        clear hf he htd hd hcb hfb ke hte
        go_wp2_with fail
        have hd:=HE.out.off (S:=one w1.heap.size) ((Kp.refl _ we).set1 1 (.int .u8 f.1.toNat)) (fun e=>by unfold one at e;omega) HBN.out
        have htd:=heap_setCell (o:=1) HTe.out (.int .u8 f.1.toNat)
        have K1d:=hide (K1e.out.setNew (Nat.le_refl _) 1 (.int .u8 f.1.toNat))
        generalize we.setCell ⟨w1.heap.size,1,none⟩ (.int .u8 f.1.toNat)=wd2 at *
        refine(value_any hd t.1).mono ?_
        rintro e wf ⟨rfl,hf,kf⟩
        obtain⟨v,hv⟩: ∃v,v=valueM E t.1 f.2:=⟨_,rfl⟩
        rw[←hv]at hf⊢
        have HVv:=hide hv
        have HF:=hide hf
        have htf:=kf.blk htd htn
        obtain⟨hcf,hff⟩:=cells_of htf
        have HTf:=hide htf
        have K1f:=hide (K1d.out.trans kf)
        clear hv hf htd hd hce hfe kf htf
        go_wp2_with fail
        have hg:=HF.out.off (S:=one w1.heap.size) ((Kp.refl _ wf).set1 2 (.int .u64 v.1)) (fun e=>by unfold one at e;omega) HBN.out
        have htg:=heap_setCell (o:=2) HTf.out (.int .u64 v.1)
        have k1g:=K1f.out.setNew (Nat.le_refl _) 2 (.int .u64 v.1)
        generalize wf.setCell ⟨w1.heap.size,2,none⟩ (.int .u64 v.1)=wg at *
        have hG:=HS.out.kp k1g hg
        have hzg:=k1g.size
        obtain⟨hrT,hrF,hrG⟩:=HS.out.rows
        have HG:=hide hG
        have K1G:=hide k1g
        have HTg:=hide htg
        obtain⟨cs,hown,hrow⟩:=hG.gown
        have HOwn:=hide hown
        have HRow:=hide hrow
        have hcl:=hown.1
        have hgne: ∀b,gv.ownBlock=some b→base≤b:=own_new hown
        have hpbl:=HS.out.pbl
        obtain⟨ig,eg,pg,hig,hbg,-,-⟩:=hG.st.obj
        obtain⟨adG,capG,hvG⟩:=own_shape hown
        obtain⟨adT,capT,hvT⟩:=own_shape HS.out.town.choose_spec.1
        obtain⟨j1,z1,hj1,hy0,hy1,hy2,hy3⟩:=info_Global
        obtain⟨S,hSd⟩: ∃S:World→Prop,S=fun w'=>(∀q,w'.cell? ⟨pb,q,none⟩= #[ptr mb,E.b,.int .i64 ig,.int .i64 (E.en:Int),.int .i64 eg,.int .i64 pg,E.loc,.int .i64 E.d][q]?)∧(∀q,w'.cell? ⟨mb,q,none⟩= #[tv,fv,.slice adG gs.length capG,.int .i64 0][q]?)∧(∀q,w'.frozen? ⟨mb,q,none⟩=false)∧(∀q,w'.cell? ⟨w1.heap.size,q,none⟩= #[.int .u8 t.1.toNat,.int .u8 f.1.toNat,.int .u64 v.1][q]?):=⟨_,rfl⟩
        have hSk: ∀W,Kp (fun b=>gv.ownBlock=some b) wg W→S W:=fun W k=>by
         rw[hSd]
         have hmk:=k.blk HG.out.blk (fun e=>by have :=hgne mb e;omega)
         rw[hvG]at hmk
         refine⟨by rw[←hm];exact(cells_of (k.blk hbg (fun e=>by have :=hgne pb e;omega))).1,(cells_of hmk).1,(cells_of hmk).2,(cells_of (k.blk HTg.out (fun e=>by have :=hrG _ e;omega))).1⟩
        have HSk:=hide hSk
        have HSd:=hide hSd
        have HVG:=hide hvG
        clear hG k1g htg hg hown hrow hbg hSk hSd hrT hrF hrG hcf hff hvG hvT
        refine wp_region_S 16 (S) (by kernel_rfl) (n:=17) rfl rfl ?hS (fun hS=> ?_)
        case hS=>exact HSk.out _ ((Kp.refl _ _).drew)
        have hSd:=HSd.out
        subst hSd
        refine tk 0 [] rfl (by kernel_rfl) rfl (fun _ _ _ h=>h) hS (fun _ h=>by(try dsimp only at h);go_simp;all_goals with_reducible rfl) ?_
        simp only[pS]
        refine tk 1 [] rfl (by kernel_rfl) rfl (fun _ _ _ h=>h) hS (fun _ h=>by(try dsimp only at h);go_simp;all_goals with_reducible rfl) ?_
        simp only[pS]
        refine tk 2 [] rfl (by kernel_rfl) rfl (fun _ _ _ h=>h) hS (fun _ h=>by(try dsimp only at h);go_simp;all_goals with_reducible rfl) ?_
        simp only[pS]
        refine tk 3 [] rfl (by kernel_rfl) rfl (fun _ _ _ h=>h) hS (fun _ h=>by(try dsimp only at h);go_simp;all_goals with_reducible rfl) ?_
        simp only[pS]
        refine tk 4 [] rfl (by kernel_rfl) rfl (fun _ _ _ h=>h) hS (fun _ h=>by(try dsimp only at h);go_simp;all_goals with_reducible rfl) ?_
        simp only[pS]
        refine tk 5 [] rfl (by kernel_rfl) rfl (fun _ _ _ h=>h) hS (fun _ h=>by(try dsimp only at h);go_simp;all_goals with_reducible rfl) ?_
        simp only[pS]
        refine tk 6 [] rfl (by kernel_rfl) rfl (fun _ _ _ h=>h) hS (fun _ h=>by(try dsimp only at h);go_simp;all_goals with_reducible rfl) ?_
        simp only[pS]
        refine tk 7 [] rfl (by kernel_rfl) rfl (fun _ _ _ h=>h) hS (fun _ h=>by(try dsimp only at h);go_simp;all_goals with_reducible rfl) ?_
        simp only[pS]
        refine tk 8 [] rfl (by kernel_rfl) rfl (fun _ _ _ h=>h) hS (fun _ h=>by(try dsimp only at h);go_simp;all_goals with_reducible rfl) ?_
        simp only[pS]
        refine tk 9 [] rfl (by kernel_rfl) rfl (fun _ _ _ h=>h) hS (fun _ h=>by(try dsimp only at h);go_simp;all_goals with_reducible rfl) ?_
        simp only[pS]
        refine tk 10 [] rfl (by kernel_rfl) rfl (fun _ _ _ h=>h) hS (fun _ h=>by(try dsimp only at h);go_simp;all_goals with_reducible rfl) ?_
        simp only[pS]
        refine tk 11 [] rfl (by kernel_rfl) rfl (fun _ _ _ h=>h) hS (fun _ h=>by(try dsimp only at h);go_simp;all_goals with_reducible rfl) ?_
        simp only[pS]
        refine wpAnyS_one 12 rfl (by kernel_rfl) rfl (fun K hK=> ?_)
        go_simp
        have kal:Kp no wg ((wg.alloc (.cells #[.int .u8 t.1.toNat,.int .u8 f.1.toNat,.int .u64 v.1] 198)).drew):=((Kp.refl _ _).alloc _).drew
        have hsrc:RowAt ((wg.alloc (.cells #[.int .u8 t.1.toNat,.int .u8 f.1.toNat,.int .u64 v.1] 198)).drew) (.slice (some ⟨wg.heap.size,0,none⟩) 1 1) 3 1 [.int .u8 t.1.toNat,.int .u8 f.1.toNat,.int .u64 v.1]:=(RowAt.newRow wg #[.int .u8 t.1.toNat,.int .u8 f.1.toNat,.int .u64 v.1] 198).kp ((Kp.refl no _).drew) (fun _ _ h=>h)
        generalize(wg.alloc (.cells #[.int .u8 t.1.toNat,.int .u8 f.1.toNat,.int .u64 v.1] 198)).drew=wh at *
        have hown':wg.ownsRow base 198 3 (.slice adG gs.length capG) gs.length cs:=by rw[←HVG.out];exact HOwn.out
        refine hK _ _ (HSk.out _ kal.any) (fun hS=> ?_)
        clear hK K
        refine wpAnyS_one 13 rfl (by kernel_rfl) rfl (fun K hK=> ?_)
        refine step_append_at _ (by rfl) _ _ _ (by rfl) base 198 j1 _ 3 16 Tryz.underlying147 hj1 hy0 hy1 hy2 hy3 (by omega) _ gs.length cs (by rfl) (kal.own hown' (fun _ _ h=>h)) (.slice (some ⟨wg.heap.size,0,none⟩) 1 1) 1 [.int .u8 t.1.toNat,.int .u8 f.1.toNat,.int .u64 v.1] (by rfl) hsrc ?g2 ?g3 ?g4 ?g5 ?_
        case g2=>intro u hu;simp at hu;rcases hu with rfl |rfl |rfl <;>rfl
        case g3=>unfold maxLen;omega
        case g4=>omega
        case g5=>have :=kal.size;omega
        intro v13 w13 hown13 hgrow13 hat13
        rw[←HVG.out]at hgrow13 hat13
        have k13:Kp (fun b=>gv.ownBlock=some b) wg w13:=(kal.any).grown hgrow13 (fun b hb=> .inl hb)
        refine hK _ _ (HSk.out _ k13) (fun hS=> ?_)
        clear hK K
        obtain⟨ad13,cap13,rfl⟩:=own_shape hown13
        refine tk 14 [15] rfl (by kernel_rfl) rfl (fun _ _ _ h=>h) hS (fun _ h=>by(try dsimp only at h);go_simp;all_goals with_reducible rfl) ?_
        simp only[pS]
        refine tk 15 [] rfl (by kernel_rfl) rfl (fun _ _ _ h=>h) hS (fun _ h=>by(try dsimp only at h);go_simp;all_goals with_reducible rfl) ?_
        simp only[pS]
        refine wpAnyS_end 16 rfl (by kernel_rfl) rfl (by kernel_rfl) (fun K hK=> ?_)
        go_simp
        refine hK _ _ ?_
        clear hK K
        refine wpAnyS_done (by kernel_rfl) ?_ _
        have kF:Kp (fun b=>b=mb∨gv.ownBlock=some b) wg (w13.setCell ⟨mb,2,none⟩ (.slice ad13 (gs.length+1) cap13)):=(k13.mono (fun b _ h=> .inr h)).setAt (.inl rfl) _ _
        have hmF:=heap_setCell (o:=2) (k13.blk HG.out.blk (fun e=>by have :=hgne mb e;omega)) (.slice ad13 (gs.length+1) cap13)
        have hownF:=((Kp.refl (one mb) w13).set1 2 (.slice ad13 (gs.length+1) cap13)).own hown13 (fun b hb e=>by have :=own_new hown13 b hb;unfold one at e;omega)
        have hFin:=HG.out.addG (x:=(t.1,f.1,v.1)) kF hmF hcl HRow.out hownF (by rcases hat13 with e|e;exact .inl e;exact .inr ⟨_,e,kal.size⟩) (by omega)
        have hgl:globR E σ'=((t.1,f.1,v.1),v.2):=by
         unfold globR
         simp only
         rw[←HTt.out,←HFf.out,show valueR E t.1 f.2=v from HVv.out.symm]
        have htie:=HT.out.step (l':=gs++[(t.1,f.1,v.1)]) hlt hbd (fun _=>by rw[hgl])
        rw[hgl]at htie
        have hkF:Kp (fun b=>b=pb∨b=mb) w (w13.setCell ⟨mb,2,none⟩ (.slice ad13 (gs.length+1) cap13)):=(HK.out.trans (K1G.out.mono (fun b _ h=> .inl h))).comp kF (fun _ _ h=>h) (fun b hb h=>by
         rcases h with h|h
         ·exact .inr h
         ·have :=hgne b h
          have :=HBase.out
          omega)
        generalize w13.setCell ⟨mb,2,none⟩ (.slice ad13 (gs.length+1) cap13)=wz at *
        have HFin:=hide hFin
        have HTie:=hide htie
        have HKF:=hide hkF
        clear hFin htie hkF hmF hownF kF hat13 hgrow13 hown13 k13 hS hsrc kal hown' hgne hgl
        go_wp2_with fail
        go_roundw
        case rel=>
         exact⟨k+1,v.2,_,gs++[(t.1,f.1,v.1)],by omega,by go_num,HFin.out,by simp;omega,HTie.out,HKF.out⟩
        case measure=>simp[intOf];omega
      ·go_wp2_with fail
       go_meet
       obtain⟨q1,q2⟩:=HT.out.fin (.inr (by omega))
       exact⟨gv,gs,by rw[q1];exact HS.out,fun e=>q2 (by rw[←q1];exact e),HK.out⟩
    case rest=>
     rename World=>w8
     obtain⟨gv,gs,h8,hgs,k8⟩:=hcut
     have H8:=hide h8
     have HGS:=hide hgs
     have K8:=hide k8
     clear h8 hgs k8 HT0 H7 K7 H6 K6
     obtain⟨S,hSd⟩: ∃S:World→Prop,S=fun w'=>w'.cell? ⟨pb,0,none⟩=some (ptr mb)∧(∀q,w'.cell? ⟨mb,q,none⟩= #[tv,fv,gv,.int .i64 0][q]?)∧(∀q,w'.frozen? ⟨mb,q,none⟩=false):=⟨_,rfl⟩
     have hSk: ∀W (τ:PS),HdSt W pb mb base E tv fv gv 0 ts fs gs τ→S W:=fun W τ h=>by
      rw[hSd]
      obtain⟨i1,e1,p1,-,hb1,-,-⟩:=h.st.obj
      refine⟨by rw[(cells_of hb1).1,←hm];rfl,(cells_of h.blk).1,(cells_of h.blk).2⟩
     have HSk:=hide hSk
     have HSd:=hide hSd
     clear hSk hSd
     go_wp2_with fail
     refine wp_region_S 8 (S) (by kernel_rfl) (n:=9) rfl rfl ?hS (fun hS=> ?_)
     case hS=>exact HSk.out _ _ (H8.out.kp ((Kp.refl _ _).drew) (H8.out.st.keep ((Kp.refl no _).drew) (fun _ _ h=>h)))
     have hSd:=HSd.out
     subst hSd
     refine tk 0 [] rfl (by kernel_rfl) rfl (fun _ _ _ h=>h) hS (fun _ h=>by(try dsimp only at h);go_simp;all_goals with_reducible rfl) ?_
     simp only[pS]
     refine tk 1 [] rfl (by kernel_rfl) rfl (fun _ _ _ h=>h) hS (fun _ h=>by(try dsimp only at h);go_simp;all_goals with_reducible rfl) ?_
     simp only[pS]
     refine tk 2 [] rfl (by kernel_rfl) rfl (fun _ _ _ h=>h) hS (fun _ h=>by(try dsimp only at h);go_simp;all_goals with_reducible rfl) ?_
     simp only[pS]
     refine tk 3 [] rfl (by kernel_rfl) rfl (fun _ _ _ h=>h) hS (fun _ h=>by(try dsimp only at h);go_simp;all_goals with_reducible rfl) ?_
     simp only[pS]
     refine tk 4 [] rfl (by kernel_rfl) rfl (fun _ _ _ h=>h) hS (fun _ h=>by(try dsimp only at h);go_simp;all_goals with_reducible rfl) ?_
     simp only[pS]
     refine wpAnyS_one 5 rfl (by kernel_rfl) rfl (fun K hK=> ?_)
     have h9:=H8.out.kp ((Kp.refl _ _).drew) (H8.out.st.keep ((Kp.refl no w8).drew) (fun _ _ h=>h))
     refine step_call (by rfl) 158 _ _ (by rfl) enters_u #[ptr pb,.int .i64 4] (by rfl) (u_any h9.st 4) ?_
     rintro r wb ⟨rfl,hb,kb⟩
     have hB:=h9.kp kb hb
     have kB:Kp (one pb) w8 wb:=((Kp.refl (one pb) w8).drew).trans kb
     refine⟨_,rfl,hK _ _ (HSk.out _ _ hB) (fun hS=> ?_)⟩
     clear hK K
     refine tk 6 [7] rfl (by kernel_rfl) rfl (fun _ _ _ h=>h) hS (fun _ h=>by(try dsimp only at h);go_simp;all_goals with_reducible rfl) ?_
     simp only[pS]
     refine tk 7 [] rfl (by kernel_rfl) rfl (fun _ _ _ h=>h) hS (fun _ h=>by(try dsimp only at h);go_simp;all_goals with_reducible rfl) ?_
     simp only[pS]
     refine wpAnyS_end 8 rfl (by kernel_rfl) rfl (by kernel_rfl) (fun K hK=> ?_)
     go_simp
     refine hK _ _ ?_
     clear hK K
     refine wpAnyS_done (by kernel_rfl) ?_ _
     have hF:=hB.setP ((uM E 4 R3.2).1:Int)
     have kF:Kp (fun b=>b=pb∨b=mb) w (wb.setCell ⟨mb,3,none⟩ (.int .i64 ((uM E 4 R3.2).1:Int))):=(K8.out.trans (kB.mono (fun b _ h=> .inl h))).setAt (.inr rfl) _ _
     generalize wb.setCell ⟨mb,3,none⟩ (.int .i64 ((uM E 4 R3.2).1:Int))=wz at *
     have HF:=hide hF
     have KF:=hide kF
     clear hF kF hS hB kB hb kb h9
     have hhead:headR E σ=((R1.1,R2.1,R3.1,(uM E 4 R3.2).1),(uM E 4 R3.2).2):=by
      unfold headR
      simp only
      rw[←HMG.out,←HR1.out,←HR2.out,←HR3.out]
     have HH:=hide hhead
     clear hhead
     go_wp2_with fail
     first |go_end0|(refine bodyPost_ret (v:= .tuple #[]) (by simp[results,Tryz.results117,go_sem]) rfl ?_)
     refine⟨rfl,tv,fv,gv,((uM E 4 R3.2).1:Int),ts,fs,gs,?_,?_,KF.out⟩
     ·rw[HH.out];exact HF.out
     ·rw[HH.out]
      intro hg
      have g3:=u_good hg
      have g2:badM R2.2=false:=times_sticky (by rw[←HR3.out];exact g3)
      have g1:badM R1.2=false:=times_sticky (by rw[←HR2.out];exact g2)
      exact⟨HTS.out g1,HFS.out g2,HGS.out g3,rfl⟩
end Go.Proofs.YtdeplgkhmebalaaGreatDoor.Rf
